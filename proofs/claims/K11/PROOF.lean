import PyProof.Rows.All
import Wide.All
import OpenK.AllK
import Wide.FinOn
import Lean
import PyProof.EqAt
import PyProof.EqKinds
import PyProof.TupleCall
import KE.KTryMore
import KE.KDictOf
import PyProof.AttrMissHeap
import PyProof.Seq
import PyProof.Rows.Tup
import KE.KDictSum
import PyProof.Rows.SortWalk
import PyProof.EnumStmt
import PyProof.EnumMake
import PyProof.EnumFor
import PyProof.Rows.Range3
import PyProof.ReprRoads
import PyProof.Rows.MinMaxN
import KE.KMinBuiltin
import PyProof.Rows.CallKwBuiltin
import KE.KTabLook
import KE.KDictList
import PyProof.ListRange
import PySem.Challenge.RW_signscreen_k11_signs_written
set_option compiler.extract_closed false
set_option Elab.async false
set_option linter.all false
set_option maxRecDepth 100000
set_option maxHeartbeats 4000000
namespace L2
open PySem PySem.Spec PyProof.Rows
noncomputable abbrev Key := Sum Int Str
noncomputable def qz : Key → Value → Bool
  | .inl k, v => Value.isInt k v
  | .inr x, v => Value.isStrOf x v
noncomputable def zea (w : World) : Key → Int
  | .inl k => hashInt k
  | .inr x => hashStr w x
theorem xh : ∀ {k : Key} {v : Value}, qz k v = true → (∃ i t, k = Sum.inl i ∧ v = Value.int i t) ∨ (∃ x t, k = Sum.inr x ∧ v = Value.str x t)
  | .inl i, v, h => by
    obtain ⟨t, e⟩ := Value.isInt_shape (k := i) (v := v) h
    exact .inl ⟨i, t, rfl, e⟩
  | .inr x, v, h => by
    obtain ⟨t, e⟩ := Value.isStrOf_shape (x := x) (v := v) h
    exact .inr ⟨x, t, rfl, e⟩
theorem QB (i : Int) (t : Tok) : qz (.inl i) (.int i t) = true := by simp [qz, Value.isInt]
theorem QC (x : Str) (t : Tok) : qz (.inr x) (.str x t) = true := by simp [qz, Value.isStrOf]
theorem zb0 (a b : Int) : decide ((Sum.inl a : Key) = Sum.inl b) = (a == b) := by
  by_cases e : a = b
  · subst e; simp
  · have h : ¬ (Sum.inl a : Key) = Sum.inl b := fun q => e (Sum.inl.inj q)
    rw [decide_eq_false h]
    exact (beq_eq_false_iff_ne.mpr e).symm
theorem zb1 (a b : Str) : decide ((Sum.inr a : Key) = Sum.inr b) = decide (a = b) := by
  by_cases e : a = b
  · subst e; simp
  · have h : ¬ (Sum.inr a : Key) = Sum.inr b := fun q => e (Sum.inr.inj q)
    rw [decide_eq_false h, decide_eq_false e]
theorem zb2 (a : Int) (b : Str) : decide ((Sum.inl a : Key) = Sum.inr b) = false := decide_eq_false (fun q => nomatch q)
theorem zb3 (a : Str) (b : Int) : decide ((Sum.inr a : Key) = Sum.inl b) = false := decide_eq_false (fun q => nomatch q)
noncomputable def yV (prog : Program) (w : World) : PySem.KeyKind prog w Key where
  is := qz
  hash := zea w
  inj := fun v a b ha hb => by
    rcases xh ha with ⟨i, t, rfl, rfl⟩ | ⟨x, t, rfl, rfl⟩
    · rcases xh hb with ⟨j, u, rfl, e⟩ | ⟨y, u, rfl, e⟩
      · injection e with e1 _; rw [e1]
      · exact nomatch e
    · rcases xh hb with ⟨j, u, rfl, e⟩ | ⟨y, u, rfl, e⟩
      · exact nomatch e
      · injection e with e1 _; rw [e1]
  byValue := fun k v h => by
    rcases xh h with ⟨i, t, rfl, rfl⟩ | ⟨x, t, rfl, rfl⟩ <;> rfl
  pyHash := fun hv h => by
    rcases xh hv with ⟨i, t, rfl, rfl⟩ | ⟨x, t, rfl, rfl⟩
    · exact wpAny_pyHash_int h
    · exact wpAny_pyHash_str h
  eqBool := fun hu hv h => by
    rcases xh hu with ⟨i, t, rfl, rfl⟩ | ⟨x, t, rfl, rfl⟩
    · rcases xh hv with ⟨j, u, rfl, rfl⟩ | ⟨y, u, rfl, rfl⟩
      · rw [zb0] at h; exact wpAny_eqBool_int h
      · rw [zb2] at h; exact SeqAt.EqAt.int_str i t y u _ _ _ _ h
    · rcases xh hv with ⟨j, u, rfl, rfl⟩ | ⟨y, u, rfl, rfl⟩
      · rw [zb3] at h; exact SeqAt.EqAt.str_int x t j u _ _ _ _ h
      · rw [zb1] at h; exact wpAny_eqBool_str h
  «strs» := fun k x t v h => by
    rcases xh h with ⟨i, u, rfl, e⟩ | ⟨y, u, rfl, e⟩
    · exact nomatch e
    · injection e with e1 _
      subst e1
      cases v <;> rfl
theorem Vl (prog : Program) (w : World) (i : Int) (t : Tok) : (yV prog w).is (.inl i) (.int i t) = true := QB i t
theorem Vm (prog : Program) (w : World) (x : Str) (t : Tok) : (yV prog w).is (.inr x) (.str x t) = true := QC x t
end L2
namespace L2
open PySem PySem.Spec PyProof.Rows
inductive V where
  | non | bl (b : Bool) | int (i : Int) | str (x : Str) | byt (b : Array UInt8) | flt (b : UInt64) | ref (a : Addr) | ty (n : String)
  deriving DecidableEq
noncomputable def RelV : V → Value → Prop
  | .non, u => u = Value.none
  | .bl b, u => u = Value.bool b
  | .int i, u => ∃ t, u = Value.int i t
  | .str x, u => ∃ t, u = Value.str x t
  | .byt b, u => ∃ t, u = Value.bytes b t
  | .flt b, u => ∃ t, u = Value.float b t
  | .ref a, u => u = Value.ref a
  | .ty n, u => u = Value.type n
noncomputable abbrev Vals : List V → List Value → Prop := Paired RelV
theorem Vals.length {xs : List V} {us : List Value} (r : Vals xs us) : xs.length = us.length := Paired.length r
theorem Vals.get : ∀ {xs : List V} {us : List Value} {i : Nat} {x : V}, Vals xs us → xs[i]? = some x → ∃ u, us[i]? = some u ∧ RelV x u
  | _, _, _, _, .nil, e => by simp at e
  | _, _, 0, _, .cons r _, e => by simp at e; subst e; exact ⟨_, rfl, r⟩
  | _, _, i + 1, x, .cons _ t, e => by
    obtain ⟨u, h1, h2⟩ := Vals.get (i := i) (x := x) t (by simpa using e)
    exact ⟨u, by simpa using h1, h2⟩
theorem Vals.set {x : V} {u : Value} (r : RelV x u) : ∀ {xs : List V} {us : List Value} (i : Nat), Vals xs us → Vals (xs.set i x) (us.set i u)
  | _, _, _, .nil => .nil
  | _, _, 0, .cons _ t => .cons r t
  | _, _, i + 1, .cons q t => .cons q (Vals.set r i t)
theorem Vals.append : ∀ {xs ys : List V} {us ws : List Value}, Vals xs us → Vals ys ws → Vals (xs ++ ys) (us ++ ws)
  | _, _, _, _, .nil, s => s
  | _, _, _, _, .cons r t, s => .cons r (Vals.append t s)
theorem Vals.take : ∀ {xs : List V} {us : List Value} (n : Nat), Vals xs us → Vals (xs.take n) (us.take n)
  | _, _, 0, _ => .nil
  | _, _, _ + 1, .nil => .nil
  | _, _, n + 1, .cons r t => .cons r (Vals.take n t)
theorem Vals.drop : ∀ {xs : List V} {us : List Value} (n : Nat), Vals xs us → Vals (xs.drop n) (us.drop n)
  | _, _, 0, r => r
  | _, _, _ + 1, .nil => .nil
  | _, _, n + 1, .cons _ t => Vals.drop n t
theorem Vals.none_of : ∀ {xs : List V} {us : List Value} {i : Nat}, Vals xs us → xs[i]? = none → us[i]? = none := fun {xs us i} r e => by
  have h1 := r.length
  have h2 : xs.length ≤ i := List.getElem?_eq_none_iff.mp e
  exact List.getElem?_eq_none_iff.mpr (by omega)
noncomputable def x4 : Option V → Option Value → Prop
  | some v, some u => RelV v u
  | none, none => True
  | _, _ => False
noncomputable def KV {κ : Type} : List (κ × V) → List (κ × Value) → Prop := Paired fun (p : κ × V) (q : κ × Value) => p.1 = q.1 ∧ RelV p.2 q.2
noncomputable def kV : Key → V
  | .inl i => .int i
  | .inr x => .str x
inductive HO where
  | lst (xs : List V)
  | tup (xs : List V)
  | dK (kvs : List (Key × V)) | dT (kvs : List (List Key × V))
  | set (S : Int → Bool) (n : Nat)
  | ins (C dx : Addr) (fs : List (Str × V))
  | own (x : Addr)
  | xd (fs : List (Str × V))
  | met (f x : Addr)
  | rng (lo hi : Int)
  | frz (o : Obj) (u : HO)
  | tbl (ps : Array Value)
  | ext (φ : Heap → Prop)
noncomputable abbrev Hp := Addr → Option HO
noncomputable def upd (H : Hp) (a : Addr) (o : HO) : Hp := fun b => if b = a then some o else H b
theorem zx {H : Hp} {a : Addr} {o : HO} : upd H a o a = some o := by unfold upd; rw [if_pos rfl]
theorem zj {H : Hp} {a b : Addr} {o : HO} (h : b ≠ a) : upd H a o b = H b := by unfold upd; rw [if_neg h]
theorem VM {H : Hp} {a : Addr} {o u : HO} : upd (upd H a o) a u = upd H a u := by
  funext b; unfold upd; split <;> rfl
theorem zdx {H : Hp} {a b : Addr} {o u : HO} (h : H a = some o) (h' : H b = some u) (d : o ≠ u) : a ≠ b := by
  intro e; subst e; rw [h] at h'; exact d (Option.some.inj h')
theorem yS {H : Hp} {a b : Addr} {o : HO} (h : H a = some o) (h' : H b = none) : a ≠ b := by
  intro e; subst e; rw [h] at h'; cases h'
section
variable (P : Program) (w : World)
noncomputable def yW (H : Hp) (h : Heap) (a : Addr) : HO → Prop
  | .lst xs => xs.length ≤ sizeLine ∧ ∃ (its : List Value) (n : Nat), Vals xs its ∧ h.get? a = some { cls := .type "list", data := .seq its.toArray n }
  | .tup xs => xs.length ≤ sizeLine ∧ ∃ its : List Value, Vals xs its ∧ IsTup h a its.toArray
  | .dK kvs => kvs.length ≤ sizeLine ∧ (a == sysModules) = false ∧ ∃ vs, KV kvs vs ∧ h.DictOf (yV P w) a vs
  | .dT kvs => kvs.length ≤ sizeLine ∧ (a == sysModules) = false ∧ ∃ xs : List (List Key × Addr × Value),
      Paired (fun (p : List Key × V) (q : List Key × Addr × Value) => p.1 = q.1 ∧ H q.2.1 = some (.tup (p.1.map kV)) ∧ RelV p.2 q.2.2) kvs xs ∧
      ∃ o es ep, h.get? a = some o ∧ o.ExactDict ∧ o.data = .dict es ep ∧ es.toList = xs.map (entryOfKey (tupleKind (yV P w))) ∧ (xs.map (·.1)).Nodup
  | .set S n => h.SetOf (intKind P w) a S n
  | .ins C dx fs => H dx = some (.own a) ∧ fs.length ≤ 1000 ∧ dx ≠ a ∧ h.get? a = some (PySem.W.instObj C dx) ∧
      ∃ mA, h.Ns1 dx mA ∧ (∀ f, x4 (fs.lookup f) (mA f)) ∧ PySem.Within mA (fs.map (·.1))
  | .own _ => ∃ o, h.get? a = some o
  | .xd fs => ∃ mA, h.Ns1 a mA ∧ ∀ f, x4 (fs.lookup f) (mA f)
  | .rng lo hi => ∃ t u v, h.get? a = some { cls := .type "range", data := .fields #[.int lo t, .int hi u, .int 1 v] }
  | .frz o u => h.get? a = some o ∧ yW H h a u
  | .tbl ps => h.get? a = some { cls := .none, data := .fields ps }
  | .met f x => h.get? a = some (PySem.W.methodObj (.ref f) (.ref x))
  | .ext φ => φ h ∧ (∃ o, h.get? a = some o) ∧ ∀ h1 h2 : Heap, φ h1 → (∀ o, h1.get? a = some o → h2.get? a = some o) → φ h2
noncomputable def HOk (H : Hp) (h : Heap) : Prop := ∀ a o, H a = some o → yW P w H h a o
end
section
variable {P : Program} {w : World} {H H' : Hp} {h h' : Heap} {a : Addr} {o : HO}
theorem yW.lt (x : yW P w H h a o) : a < h.objs.size := by
  cases o with
  | lst xs => obtain ⟨_, _, _, _, e⟩ := x; exact Heap.lt_size e
  | tup xs => obtain ⟨_, _, _, p⟩ := x; exact p.lt
  | dK kvs => obtain ⟨_, _, _, _, o, _, _, e, _⟩ := x; exact Heap.lt_size e
  | dT kvs => obtain ⟨_, _, _, _, o, _, _, e, _⟩ := x; exact Heap.lt_size e
  | set S n => obtain ⟨o, _, _, _, e, _⟩ := x; exact Heap.lt_size e
  | ins C dx fs => obtain ⟨_, _, _, e, _⟩ := x; exact Heap.lt_size e
  | own y => obtain ⟨_, e⟩ := x; exact Heap.lt_size e
  | xd fs => obtain ⟨_, ⟨_, _, _, e, _⟩, _⟩ := x; exact Heap.lt_size e
  | rng lo hi => obtain ⟨_, _, _, e⟩ := x; exact Heap.lt_size e
  | frz ob u => obtain ⟨e, _⟩ := x; exact Heap.lt_size e
  | tbl ps => exact Heap.lt_size (show h.get? a = some _ from x)
  | met f y => exact Heap.lt_size (show h.get? a = some _ from x)
  | ext φ => obtain ⟨_, ⟨_, e⟩, _⟩ := x; exact Heap.lt_size e
theorem Paired.mapP {α β : Type} {F G : α → β → Prop} : ∀ {l₁ : List α} {l₂ : List β}, Paired F l₁ l₂ → (∀ a b, F a b → G a b) → Paired G l₁ l₂
  | _, _, .nil, _ => .nil
  | _, _, .cons r t, f => .cons (f _ _ r) (Paired.mapP t f)
theorem Paired.imp' {α β : Type} {F G : α → β → Prop} (f : ∀ a b, F a b → G a b) {l₁ : List α} {l₂ : List β} (r : Paired F l₁ l₂) : Paired G l₁ l₂ := Paired.mapP r f
theorem yW.stay (x : yW P w H h a o) (k : ∀ b u, (b = a ∨ H b = some (.own a)) → h.get? b = some u → h'.get? b = some u)
    (ho : ∀ b, H b = some (.own a) → H' b = some (.own a)) (ht : ∀ b xs, H b = some (.tup xs) → H' b = some (.tup xs)) : yW P w H' h' a o := by
  induction o with
  | lst xs => obtain ⟨z, its, n, r, e⟩ := x; exact ⟨z, its, n, r, k _ _ (.inl rfl) e⟩
  | tup xs => obtain ⟨z, its, r, ob, e, c⟩ := x; exact ⟨z, its, r, ob, k _ _ (.inl rfl) e, c⟩
  | dK kvs => obtain ⟨z, y, vs, r, ob, es, ep, e, c⟩ := x; exact ⟨z, y, vs, r, ob, es, ep, k _ _ (.inl rfl) e, c⟩
  | dT kvs =>
    obtain ⟨z, y, xs, r, ob, es, ep, e, c⟩ := x
    exact ⟨z, y, xs, Paired.mapP r fun p q z => ⟨z.1, ht _ _ z.2.1, z.2.2⟩, ob, es, ep, k _ _ (.inl rfl) e, c⟩
  | set S n => obtain ⟨ob, es, ep, t, e, c⟩ := x; exact ⟨ob, es, ep, t, k _ _ (.inl rfl) e, c⟩
  | ins C dx fs =>
    obtain ⟨d, z, ne, e, mA, ⟨od, es, ep, e2, c⟩, r⟩ := x
    exact ⟨ho _ d, z, ne, k _ _ (.inl rfl) e, mA, ⟨od, es, ep, k _ _ (.inr d) e2, c⟩, r⟩
  | own y => obtain ⟨ob, e⟩ := x; exact ⟨ob, k _ _ (.inl rfl) e⟩
  | xd fs => obtain ⟨mA, ⟨od, es, ep, e, c⟩, r⟩ := x; exact ⟨mA, ⟨od, es, ep, k _ _ (.inl rfl) e, c⟩, r⟩
  | rng lo hi => obtain ⟨t, u, v, e⟩ := x; exact ⟨t, u, v, k _ _ (.inl rfl) e⟩
  | frz ob u ih => obtain ⟨e, q⟩ := x; exact ⟨k _ _ (.inl rfl) e, ih q⟩
  | tbl ps =>
    have e : h.get? a = some { cls := .none, data := .fields ps } := x
    show h'.get? a = some { cls := .none, data := .fields ps }
    exact k a _ (.inl rfl) e
  | met f y =>
    have e : h.get? a = some (PySem.W.methodObj (.ref f) (.ref y)) := x
    show h'.get? a = some (PySem.W.methodObj (.ref f) (.ref y))
    exact k a _ (.inl rfl) e
  | ext φ => obtain ⟨p, ⟨o, e⟩, st⟩ := x; exact ⟨st _ _ p fun o q => k _ _ (.inl rfl) q, ⟨o, k _ _ (.inl rfl) e⟩, st⟩
theorem HOk.lt (x : HOk P w H h) (e : H a = some o) : a < h.objs.size := (x a o e).lt
theorem HOk.fresh (x : HOk P w H h) (e : h.objs.size ≤ a) : H a = none := by
  cases q : H a with
  | none => rfl
  | some u => exact absurd (Nat.lt_of_lt_of_le (x.lt q) e) (Nat.lt_irrefl _)
theorem HOk.kept (x : HOk P w H h) (k : ∀ b u, h.get? b = some u → h'.get? b = some u) : HOk P w H h' := fun a o e =>
  (x a o e).stay (fun b u _ q => k b u q) (fun _ q => q) fun _ _ q => q
theorem HOk.laid (x : HOk P w H h) (k : ∀ b u, h.get? b = some u → h'.get? b = some u) (hp : h.objs.size ≤ a) (new : yW P w (upd H a o) h' a o) : HOk P w (upd H a o) h' := fun b u e => by
  have hn := x.fresh hp
  by_cases hb : b = a
  · subst hb; rw [zx] at e; cases e; exact new
  · rw [zj hb] at e
    exact (x b u e).stay (fun c v _ q => k c v q) (fun c q => by rw [zj (yS q hn)]; exact q) fun c xs q => by rw [zj (yS q hn)]; exact q
end
noncomputable def Rd (H : Hp) (a : Addr) (u : HO) : Prop := H a = some u ∨ ∃ o, H a = some (.frz o u)
theorem Rd.of {H : Hp} {a : Addr} {u : HO} (h : H a = some u) : Rd H a u := .inl h
theorem Rd.ok {P : Program} {w : World} {H : Hp} {h : Heap} {a : Addr} {u : HO} (r : Rd H a u) (x : HOk P w H h) : yW P w H h a u := by
  rcases r with r | ⟨o, r⟩
  · exact x a u r
  · obtain ⟨_, q⟩ := x a _ r
    exact q
noncomputable def Mut : Option HO → Prop
  | some (.lst _) => True
  | some (.dK _) => True
  | some (.dT _) => True
  | some (.set _ _) => True
  | some (.ins _ _ _) => True
  | some (.ext _) => True
  | _ => False
section
variable {P : Program} {w : World} {H : Hp} {h h' : Heap} {x e : Addr} {o' : HO}
theorem HOk.write (ok : HOk P w H h) (mu : Mut (H x)) (he : e = x ∨ H e = some (.own x)) (k : ∀ b u, b ≠ e → h.get? b = some u → h'.get? b = some u) (heo : ∃ u, h'.get? e = some u)
    (new : yW P w (upd H x o') h' x o') : HOk P w (upd H x o') h' := fun b u q => by
  have nown : ∀ c y, H c = some (.own y) → c ≠ x := fun c y r z => by subst z; rw [r] at mu; exact mu
  have ntup : ∀ c xs, H c = some (.tup xs) → c ≠ x := fun c xs r z => by subst z; rw [r] at mu; exact mu
  by_cases hb : b = x
  · subst hb; rw [zx] at q; cases q; exact new
  · rw [zj hb] at q
    by_cases hbe : b = e
    · have q' : H b = some (.own x) := by
        rcases he with z | z
        · exact absurd (hbe.trans z) hb
        · rw [hbe]; exact z
      rw [q] at q'; cases q'
      obtain ⟨v, hv⟩ := heo
      exact ⟨v, by rw [hbe]; exact hv⟩
    · refine (ok b u q).stay (fun c v hc r => k c v ?_ r) (fun c r => by rw [zj (nown c b r)]; exact r) fun c xs r => by rw [zj (ntup c xs r)]; exact r
      rcases hc with rfl | hc
      · exact hbe
      · rintro rfl
        rcases he with z | z
        · exact nown c b hc z
        · rw [hc] at z; cases z; exact hb rfl
end
structure Un (fs ex : List Addr) (H H' : Hp) (h h' : Heap) : Prop where
  keep : ∀ b o, h.get? b = some o → H b = none → b ∉ fs → b ∉ ex → h'.get? b = some o
  slot : ∀ b o, h.get? b = some o → H b = none → b ∈ fs → b ∉ ex → ∃ sl, h'.get? b = some { o with slots := sl }
  free : ∀ b o, h.get? b = some o → H b = none → b ∉ ex → H' b = none
  there : ∀ b o, h.get? b = some o → b ∉ ex → ∃ o', h'.get? b = some o'
  tups : ∀ b xs, H b = some (.tup xs) → H' b = some (.tup xs)
  frzs : ∀ b o u, H b = some (.frz o u) → H' b = some (.frz o u)
  tbls : ∀ b ps, H b = some (.tbl ps) → ∃ more, H' b = some (.tbl (ps ++ more))
section
variable {fs fs' ex ex' : List Addr} {H H1 H2 : Hp} {h h1 h2 h' : Heap} {a x e : Addr} {o : HO}
theorem Un.any (u : Un fs ex H H1 h h1) {b : Addr} {ob : Obj} (q : h.get? b = some ob) (n : H b = none) (hx : b ∉ ex) : ∃ sl, h1.get? b = some { ob with slots := sl } := by
  by_cases hb : b ∈ fs
  · exact u.slot b ob q n hb hx
  · exact ⟨ob.slots, u.keep b ob q n hb hx⟩
theorem Un.trans (a : Un fs ex H H1 h h1) (b : Un fs ex H1 H2 h1 h2) : Un fs ex H H2 h h2 where
  keep := fun c ob q n hc hx => b.keep c ob (a.keep c ob q n hc hx) (a.free c ob q n hx) hc hx
  slot := fun c ob q n hc hx => by
    obtain ⟨sl, e1⟩ := a.slot c ob q n hc hx
    obtain ⟨sl', e2⟩ := b.slot c _ e1 (a.free c ob q n hx) hc hx
    exact ⟨sl', e2⟩
  free := fun c ob q n hx => by
    obtain ⟨o', e1⟩ := a.there c ob q hx
    exact b.free c o' e1 (a.free c ob q n hx) hx
  there := fun c ob q hx => by
    obtain ⟨o', e1⟩ := a.there c ob q hx
    exact b.there c o' e1 hx
  tups := fun c xs q => b.tups c xs (a.tups c xs q)
  frzs := fun c ob xs q => b.frzs c ob xs (a.frzs c ob xs q)
  tbls := fun c ps q => by
    obtain ⟨m1, e1⟩ := a.tbls c ps q
    obtain ⟨m2, e2⟩ := b.tbls c _ e1
    exact ⟨m1 ++ m2, by rw [e2, Array.append_assoc]⟩
theorem Un.kept (k : ∀ b u, h.get? b = some u → h'.get? b = some u) : Un fs ex H H h h' :=
  ⟨fun b ob q _ _ _ => k b ob q, fun b ob q _ _ _ => ⟨ob.slots, k b ob q⟩, fun _ _ _ n _ => n, fun b ob q _ => ⟨ob, k b ob q⟩, fun _ _ q => q, fun _ _ _ q => q, fun _ ps q => ⟨#[], by rw [q]; simp⟩⟩
theorem Un.refl : Un fs ex H H h h := Un.kept fun _ _ q => q
theorem Un.laid (k : ∀ b u, h.get? b = some u → h'.get? b = some u) (hp : h.objs.size ≤ a) (hn : H a = none) : Un fs ex H (upd H a o) h h' where
  keep := fun b u q _ _ _ => k b u q
  slot := fun b u q _ _ _ => ⟨u.slots, k b u q⟩
  free := fun b u q n _ => by rw [zj (Nat.ne_of_lt (Nat.lt_of_lt_of_le (Heap.lt_size q) hp))]; exact n
  there := fun b u q _ => ⟨u, k b u q⟩
  tups := fun b xs q => by rw [zj (yS q hn)]; exact q
  frzs := fun b u xs q => by rw [zj (yS q hn)]; exact q
  tbls := fun b ps q => ⟨#[], by rw [zj (yS q hn), q]; simp⟩
theorem Un.write (mu : Mut (H x)) (he : e = x ∨ H e = some (.own x)) (k : ∀ b u, b ≠ e → h.get? b = some u → h'.get? b = some u) (heo : ∃ u, h'.get? e = some u) : Un fs ex H (upd H x o) h h' := by
  have hx : ∀ b, H b = none → b ≠ x := fun b n z => by subst z; rw [n] at mu; exact mu
  have hb : ∀ b, H b = none → b ≠ e := fun b n z => by
    subst z
    rcases he with r | r
    · exact hx b n r
    · rw [n] at r; cases r
  have hm : ∀ b u, H b = some u → ¬ Mut (some u) → b ≠ x := fun b u q nm z => by subst z; rw [q] at mu; exact nm mu
  refine ⟨fun b u q n _ _ => k b u (hb b n) q, fun b u q n _ _ => ⟨u.slots, k b u (hb b n) q⟩, fun b u q n _ => by rw [zj (hx b n)]; exact n, fun b u q _ => ?_,
    fun b xs q => by rw [zj (hm b _ q fun z => z)]; exact q, fun b u xs q => by rw [zj (hm b _ q fun z => z)]; exact q, fun b ps q => ⟨#[], by rw [zj (hm b _ q fun z => z), q]; simp⟩⟩
  by_cases hbe : b = e
  · subst hbe; exact heo
  · exact ⟨u, k b u hbe q⟩
theorem Un.mono (u : Un fs ex H H1 h h1) (hs : ∀ b ∈ fs, b ∈ fs') (hx : ∀ b ∈ ex, b ∈ ex') : Un fs' ex' H H1 h h1 :=
  ⟨fun b ob q n hb he => u.keep b ob q n (fun z => hb (hs b z)) fun z => he (hx b z), fun _ _ q n _ he => u.any q n fun z => he (hx _ z), fun b ob q n he => u.free b ob q n fun z => he (hx b z), fun b ob q he => u.there b ob q fun z => he (hx b z), u.tups, u.frzs, u.tbls⟩
end
noncomputable def trk (h : Heap) (H : Hp) : List Addr := (List.range h.objs.size).filter fun a => (H a).isSome
noncomputable def qA (h : Heap) (H : Hp) : Heap := PySem.W.hideAll h (trk h H)
theorem QD (h : Heap) (H : Hp) : (qA h H).objs.size = h.objs.size := PySem.W.hideAll_size _ _
theorem JC {h : Heap} {H : Hp} {b : Addr} {o : Obj} (e : h.get? b = some o) (n : H b = none) : (qA h H).get? b = some o :=
  PySem.W.hideAll_get _ e fun hm => by
    have q : (H b).isSome = true := (List.mem_filter.mp hm).2
    rw [n] at q; simp at q
theorem zaR {h : Heap} {H : Hp} {b : Addr} {o : Obj} (e : (qA h H).get? b = some o) : h.get? b = some o ∧ H b = none := by
  have e' : h.get? b = some o := PySem.W.of_hideAll (trk h H) e
  refine ⟨e', ?_⟩
  cases q : H b with
  | none => rfl
  | some x =>
    have hm : b ∈ trk h H := List.mem_filter.mpr ⟨List.mem_range.mpr (Heap.lt_size e'), by simp [q]⟩
    have z : (qA h H).get? b = none := PySem.W.hideAll_none (trk h H) hm
    rw [z] at e; cases e
noncomputable def zaS (g h : Heap) (L : Addr) : List (Addr × Obj) := (List.range h.objs.size).filterMap fun a => if a = L ∨ (g.get? a).isSome = true then none else (h.get? a).map fun o => (a, o)
noncomputable def xS (g h : Heap) (L d : Addr) : List (Addr × Obj) := (zaS g h L).filter fun p => decide (p.1 ≠ d)
end L2
namespace L2
open PySem PySem.Spec PyProof.Rows
structure Mod (K : PySem.W.Frag) (mg : Str → Option Value) (base : Heap) : Prop where
  kin : K.In base
  glob : base.Ns mainGlobals mg
  blt : ∃ mb, base.Ns builtinsNs mb ∧ ∀ x : Str, x ≠ "__name__" → mb x = bootBuiltins x
  nolimit : base.NoLimit
structure Cx where
  prog : Program
  w : World
  K : PySem.W.Frag
  mg : Str → Option Value
  base : Heap
  A : Around
  N : List Str
  s₀ : Shared
  H₀ : Hp
  env : Env
  outer : List Env
  stack : List Env
  ex : List Addr
  fn : Str → Bool
  calm : Bool
  pn : List (Addr × Obj)
  xe : Value → Shared → Prop
noncomputable def frs (l : List Env) : List Addr := l.filterMap (·.frame)
noncomputable abbrev Cx.fs (X : Cx) : List Addr := frs X.outer
noncomputable def Vis (sc : Scope) (x : Str) : Prop := sc.names.lookup x = some .local ∨ sc.names.lookup x = some .cell ∨ sc.names.lookup x = some .free
noncomputable def Loc (sc : Scope) (x : Str) : Prop := sc.names.lookup x = some .local ∨ sc.names.lookup x = some .cell
noncomputable def Look (env : Env) (h : Heap) (m : Str → Option Value) (x : Str) (u : Value) : Prop :=
  (env.kindOf x = some .local ∧ m x = some u) ∨ ((env.kindOf x = some .cell ∨ env.kindOf x = some .free) ∧ ∃ c, env.cells.lookup x = some c ∧ h.IsCell c (some u))
structure Cx.Ok (X : Cx) : Prop where
  mod : Mod X.K X.mg X.base
  kind : X.env.scope.kind = .function
  glob : X.env.globals = mainGlobals
  blt : X.env.builtins = builtinsNs
  above : X.s₀.heap.objs.size ≤ X.env.locals
  inj : ∀ x y c, X.env.cells.lookup x = some c → X.env.cells.lookup y = some c → x = y
  has : ∀ x, (X.env.kindOf x = some .cell ∨ X.env.kindOf x = some .free) → ∃ c, X.env.cells.lookup x = some c
  cab : ∀ x c, X.fn x = true → X.env.cells.lookup x = some c → X.s₀.heap.objs.size ≤ c
  hd : X.calm = true → X.A.handled = none
  frames : X.A.frames = some X.stack
  stk : X.stack = X.outer ∨ (X.stack = X.env :: X.outer ∧ X.env.frame = some X.env.locals)
  exf : ∀ b ∈ X.ex, b ≠ X.env.locals ∧ ∀ x c, X.env.cells.lookup x = some c → c ≠ b
  bs : ∀ b o, X.base.get? b = some o → X.s₀.heap.get? b = some o ∧ X.H₀ b = none
  bsz : X.base.objs.size ≤ X.s₀.heap.objs.size
  noex : ∀ b o, X.base.get? b = some o → b ∉ X.ex
  exfs : ∀ b ∈ X.ex, b ∉ X.fs
  funs : X.s₀.heap.FunFrames X.base X.outer
  frf : ∀ b ∈ X.fs, X.H₀ b = none
structure Inv (X : Cx) (pins : List (Addr × Obj)) (σ : List (Option V)) (H : Hp) (s : Shared) : Prop where
  ok : X.Ok
  os : s.os = X.s₀.os
  bare : AllBare s.gens
  base : Un X.fs X.ex X.H₀ H X.s₀.heap s.heap
  loc : ∃ m, s.heap.Ns X.env.locals m ∧ ∀ (i : Nat) (x : Str) (v : V), X.N[i]? = some x → σ[i]? = some (some v) → Vis X.env.scope x → ∃ u, RelV v u ∧ Look X.env s.heap m x u
  cell : ∀ x c, X.env.cells.lookup x = some c → ∃ v, s.heap.IsCell c v
  free : H X.env.locals = none
  freeC : ∀ x c, X.env.cells.lookup x = some c → H c = none
  pin : ∀ p ∈ X.pn ++ pins, s.heap.get? p.1 = some p.2 ∧ H p.1 = none ∧ p.1 ≠ X.env.locals ∧ p.1 ∉ X.fs ∧ ∀ v, p.2.data ≠ .cell v
  hok : HOk X.prog X.w H s.heap
  len : σ.length = X.N.length
section
variable {X : Cx} {pins : List (Addr × Obj)} {σ : List (Option V)} {H H' : Hp} {s : Shared} {h' : Heap}
theorem Cx.Ok.nofr (ok : X.Ok) {b : Addr} {o : Obj} (e : X.base.get? b = some o) : b ∉ X.fs := fun hb => by
  have := (ok.funs.mem hb).1
  rw [e] at this; cases this
theorem Inv.bs (I : Inv X pins σ H s) : ∀ b o, X.base.get? b = some o → s.heap.get? b = some o ∧ H b = none := fun b o e =>
  ⟨I.base.keep b o (I.ok.bs b o e).1 (I.ok.bs b o e).2 (I.ok.nofr e) (I.ok.noex b o e), I.base.free b o (I.ok.bs b o e).1 (I.ok.bs b o e).2 (I.ok.noex b o e)⟩
theorem Inv.bk (I : Inv X pins σ H s) : ∀ b o, X.base.get? b = some o → s.heap.get? b = some o := fun b o e => (I.bs b o e).1
theorem Inv.mod (I : Inv X pins σ H s) : Mod X.K X.mg X.base := I.ok.mod
theorem Inv.kIn (I : Inv X pins σ H s) : X.K.In s.heap := I.ok.mod.kin.keeps I.bk
theorem Inv.nolimit (I : Inv X pins σ H s) : s.heap.NoLimit := I.ok.mod.nolimit.keeps I.bk
theorem Inv.fr (I : Inv X pins σ H s) : ∃ m, Fr X.base X.env.locals s.heap m :=
  let ⟨m, hn, _⟩ := I.loc
  ⟨m, hn, I.bk, Nat.le_trans I.ok.bsz I.ok.above⟩
theorem Inv.lt (I : Inv X pins σ H s) : X.env.locals < s.heap.objs.size := let ⟨_, hn, _⟩ := I.loc; hn.lt
theorem Inv.sz (I : Inv X pins σ H s) : X.s₀.heap.objs.size ≤ s.heap.objs.size := Nat.le_trans I.ok.above (Nat.le_of_lt I.lt)
theorem Inv.nofs (I : Inv X pins σ H s) {a : Addr} (h : s.heap.objs.size ≤ a) : a ∉ X.fs := fun hb => by
  obtain ⟨_, o, ho, _⟩ := I.ok.funs.mem hb
  exact absurd (Nat.lt_of_lt_of_le (Heap.lt_size ho) (Nat.le_trans I.sz h)) (Nat.lt_irrefl _)
theorem Inv.cne (I : Inv X pins σ H s) : ∀ x c, X.env.cells.lookup x = some c → c ≠ X.env.locals := fun x c e z => by
  obtain ⟨v, o, ho, hd⟩ := I.cell x c e
  obtain ⟨m, ⟨o', es, ep, ho', hd', _⟩, _⟩ := I.loc
  rw [z, ho'] at ho; cases ho; rw [hd'] at hd; cases hd
theorem Inv.funs (I : Inv X pins σ H s) : s.heap.FunFrames X.base X.outer := by
  have all : ∀ (l : List Env), (∀ b ∈ frs l, b ∈ X.fs) → X.s₀.heap.FunFrames X.base l → s.heap.FunFrames X.base l := by
    intro l
    induction l with
    | nil => intro _ _; trivial
    | cons env r ih =>
      intro hs hl
      obtain ⟨hk, ⟨L, o, hf, hn, ho, hd⟩, hr⟩ := hl
      have hL : L ∈ X.fs := hs L (by unfold frs; rw [List.filterMap_cons, hf]; exact List.mem_cons_self)
      obtain ⟨sl, e⟩ := I.base.slot L o ho (I.ok.frf L hL) hL fun z => I.ok.exfs L z hL
      exact ⟨hk, ⟨L, _, hf, hn, e, hd⟩, ih (fun b hb => hs b (by unfold frs; rw [List.filterMap_cons, hf]; exact List.mem_cons_of_mem _ hb)) hr⟩
  exact all X.outer (fun _ hb => hb) I.ok.funs
theorem Inv.stack (I : Inv X pins σ H s) : s.heap.FunFrames X.base X.stack := by
  rcases I.ok.stk with e | ⟨e, hf⟩
  · rw [e]; exact I.funs
  · rw [e]
    obtain ⟨m, hn, _⟩ := I.loc
    refine .cons (by rw [I.ok.kind]; decide) hf hn ?_ I.funs
    exact Heap.get?_none_of_le (Nat.le_trans I.ok.bsz I.ok.above)
theorem Inv.stkSub (I : Inv X pins σ H s) : ∀ b ∈ frs X.stack, b ∈ X.env.locals :: X.fs := fun b hb => by
  rcases I.ok.stk with e | ⟨e, hf⟩
  · rw [e] at hb; exact List.mem_cons_of_mem _ hb
  · rw [e] at hb
    unfold frs at hb
    rw [List.filterMap_cons, hf] at hb
    exact hb
theorem Inv.stkFree (I : Inv X pins σ H s) : ∀ b ∈ frs X.stack, H b = none := fun b hb => by
  rcases List.mem_cons.mp (I.stkSub b hb) with e | hb
  · rw [e]; exact I.free
  · obtain ⟨_, o, ho, _⟩ := I.ok.funs.mem hb
    exact I.base.free b o ho (I.ok.frf b hb) fun z => I.ok.exfs b z hb
theorem Inv.step {g' : Array GenState} {t' : Nat} {d' : Drawn} {ch : List Addr} (I : Inv X pins σ H s)
    (hch : ∀ b ∈ ch, (b ∈ X.ex ∨ X.s₀.heap.objs.size ≤ b) ∧ b ≠ X.env.locals ∧ (∀ x c, X.env.cells.lookup x = some c → c ≠ b) ∧ ∀ p ∈ X.pn ++ pins, p.1 ≠ b)
    (keep : ∀ b o, b ≠ X.env.locals → b ∉ X.fs → b ∉ ch → s.heap.get? b = some o → H b = none → h'.get? b = some o)
    (slot : ∀ b o, b ≠ X.env.locals → b ∈ X.fs → b ∉ ch → s.heap.get? b = some o → H b = none → ∃ sl, h'.get? b = some { o with slots := sl }) (free : ∀ b o, b ∉ ch → s.heap.get? b = some o → H b = none → H' b = none)
    (there : ∀ b o, b ∉ ch → s.heap.get? b = some o → ∃ o', h'.get? b = some o')
    (tups : ∀ b xs, H b = some (.tup xs) → H' b = some (.tup xs)) (frzs : ∀ b o u, H b = some (.frz o u) → H' b = some (.frz o u)) (tbls : ∀ b ps, H b = some (.tbl ps) → ∃ more, H' b = some (.tbl (ps ++ more)))
    (ns : ∀ m, s.heap.Ns X.env.locals m → h'.Ns X.env.locals m) (hok : HOk X.prog X.w H' h') (hg : AllBare g') :
    Inv X pins σ H' { s with heap := h', gens := g', drawn := d', toks := t' } := by
  have neL : ∀ b o, X.s₀.heap.get? b = some o → b ≠ X.env.locals := fun b o e => Nat.ne_of_lt (Nat.lt_of_lt_of_le (Heap.lt_size e) I.ok.above)
  have neC : ∀ b o, X.s₀.heap.get? b = some o → b ∉ X.ex → b ∉ ch := fun b o e hx hb => by
    rcases (hch b hb).1 with z | z
    · exact hx z
    · exact absurd (Nat.lt_of_lt_of_le (Heap.lt_size e) z) (Nat.lt_irrefl _)
  have cellK : ∀ x c, X.env.cells.lookup x = some c → ∀ v, s.heap.IsCell c v → h'.IsCell c v := fun x c e v ⟨o, ho, hd⟩ => by
    have nch : c ∉ ch := fun z => (hch c z).2.2.1 x c e rfl
    by_cases hc : c ∈ X.fs
    · obtain ⟨sl, q⟩ := slot c o (I.cne x c e) hc nch ho (I.freeC x c e)
      exact ⟨_, q, hd⟩
    · exact ⟨o, keep c o (I.cne x c e) hc nch ho (I.freeC x c e), hd⟩
  refine ⟨I.ok, I.os, hg, ⟨fun b o e n hb hx => ?_, fun b o e n hb hx => ?_, fun b o e n hx => ?_, fun b o e hx => ?_, fun b xs e => tups b xs (I.base.tups b xs e), fun b o xs e => frzs b o xs (I.base.frzs b o xs e), fun b ps e => ?_⟩, ?_, fun x c e => ?_, ?_, fun x c e => ?_, fun p hp => ?_, hok, I.len⟩
  · exact keep b o (neL b o e) hb (neC b o e hx) (I.base.keep b o e n hb hx) (I.base.free b o e n hx)
  · obtain ⟨sl, e1⟩ := I.base.slot b o e n hb hx
    obtain ⟨sl', e2⟩ := slot b _ (neL b o e) hb (neC b o e hx) e1 (I.base.free b o e n hx)
    exact ⟨sl', e2⟩
  · obtain ⟨o', e1⟩ := I.base.there b o e hx
    exact free b o' (neC b o e hx) e1 (I.base.free b o e n hx)
  · obtain ⟨o', e1⟩ := I.base.there b o e hx
    exact there b o' (neC b o e hx) e1
  · obtain ⟨m1, e1⟩ := I.base.tbls b ps e
    obtain ⟨m2, e2⟩ := tbls b _ e1
    exact ⟨m1 ++ m2, by rw [e2, Array.append_assoc]⟩
  · obtain ⟨m, hn, hl⟩ := I.loc
    refine ⟨m, ns m hn, fun i x v e1 e2 e3 => ?_⟩
    obtain ⟨u, r, l⟩ := hl i x v e1 e2 e3
    refine ⟨u, r, ?_⟩
    rcases l with l | ⟨k, c, e, z⟩
    · exact .inl l
    · exact .inr ⟨k, c, e, cellK x c e _ z⟩
  · obtain ⟨v, z⟩ := I.cell x c e
    exact ⟨v, cellK x c e v z⟩
  · obtain ⟨m, ⟨o, _, _, ho, _⟩, _⟩ := I.loc
    exact free _ o (fun z => (hch _ z).2.1 rfl) ho I.free
  · obtain ⟨v, o, ho, hd⟩ := I.cell x c e
    exact free c o (fun z => (hch c z).2.2.1 x c e rfl) ho (I.freeC x c e)
  · obtain ⟨e, n, ne, nf, d⟩ := I.pin p hp
    have nch : p.1 ∉ ch := fun z => (hch p.1 z).2.2.2 p hp rfl
    exact ⟨keep p.1 p.2 ne nf nch e n, free p.1 p.2 nch e n, ne, nf, d⟩
theorem Inv.un {t' : Nat} (I : Inv X pins σ H s) (u : Un X.fs [] H H' s.heap h') (hok : HOk X.prog X.w H' h') : Inv X pins σ H' { s with heap := h', toks := t' } := by
  obtain ⟨m, ⟨o, es, ep, ho, r⟩, _⟩ := id I.loc
  obtain ⟨sl, hL⟩ := u.any ho I.free (by simp)
  exact I.step (g' := s.gens) (d' := s.drawn) (ch := []) (fun _ z => nomatch z) (fun b o _ hb _ e n => u.keep b o e n hb (by simp)) (fun b o _ hb _ e n => u.slot b o e n hb (by simp)) (fun b o _ e n => u.free b o e n (by simp)) (fun b o _ e => u.there b o e (by simp)) u.tups u.frzs u.tbls (fun m' hm => by
    obtain ⟨o', es', ep', ho', r'⟩ := hm
    rw [ho] at ho'; cases ho'
    exact ⟨_, es', ep', hL, r'⟩) hok I.bare
theorem Inv.call {g' : Array GenState} {t' : Nat} {d' : Drawn} {ch : List Addr} (I : Inv X pins σ H s) (u : Un (frs X.stack) ch H H' s.heap h') (hok : HOk X.prog X.w H' h') (hg : AllBare g')
    (hch : ∀ b ∈ ch, (b ∈ X.ex ∨ X.s₀.heap.objs.size ≤ b) ∧ b ≠ X.env.locals ∧ (∀ x c, X.env.cells.lookup x = some c → c ≠ b) ∧ ∀ p ∈ X.pn ++ pins, p.1 ≠ b) :
    Inv X pins σ H' { s with heap := h', gens := g', drawn := d', toks := t' } := by
  obtain ⟨m, ⟨o, es, ep, ho, r⟩, _⟩ := id I.loc
  obtain ⟨sl, hL⟩ := u.any ho I.free fun z => (hch _ z).2.1 rfl
  exact I.step (ch := ch) hch (fun b o hL hb hc e n => u.keep b o e n (fun z => (List.mem_cons.mp (I.stkSub b z)).elim hL hb) hc) (fun b o _ _ hc e n => u.any e n hc) (fun b o hc e n => u.free b o e n hc) (fun b o hc e => u.there b o e hc) u.tups u.frzs u.tbls (fun m' hm => by
    obtain ⟨o', es', ep', ho', r'⟩ := hm
    rw [ho] at ho'; cases ho'
    exact ⟨_, es', ep', hL, r'⟩) hok hg
theorem Inv.turned {t' : Nat} {it : Addr} (I : Inv X pins σ H s) (k : ∀ b o, b ≠ it → s.heap.get? b = some o → h'.get? b = some o) (hn : H it = none) (hL : it ≠ X.env.locals)
    (h1 : it ∈ X.ex ∨ X.s₀.heap.objs.size ≤ it) (h2 : ∀ x c, X.env.cells.lookup x = some c → c ≠ it) (h3 : ∀ p ∈ X.pn ++ pins, p.1 ≠ it) : Inv X pins σ H { s with heap := h', toks := t' } := by
  have nit : ∀ b u, H b = some u → b ≠ it := fun b u e z => by rw [z, hn] at e; cases e
  refine I.step (g' := s.gens) (d' := s.drawn) (ch := [it]) (fun b hb => ?_) (fun b o _ _ hc e _ => k b o (fun z => hc (by simp [z])) e) (fun b o _ _ hc e _ => ⟨o.slots, k b o (fun z => hc (by simp [z])) e⟩) (fun _ _ _ _ n => n)
    (fun b o hc e => ⟨o, k b o (fun z => hc (by simp [z])) e⟩) (fun _ _ e => e) (fun _ _ _ e => e) (fun b ps e => ⟨#[], by rw [e]; simp⟩) (fun m hm => ?_) (fun b u e => ?_) I.bare
  · have e : b = it := by simpa using hb
    subst e
    exact ⟨h1, hL, h2, h3⟩
  · obtain ⟨o, es, ep, ho, r⟩ := hm
    exact ⟨o, es, ep, k _ o (Ne.symm hL) ho, r⟩
  · refine (I.hok b u e).stay (fun c v hc q => k c v ?_ q) (fun _ q => q) fun _ _ q => q
    rcases hc with z | z
    · rw [z]; exact nit b u e
    · exact nit c _ z
theorem Inv.tok (I : Inv X pins σ H s) (t : Nat) : Inv X pins σ H { s with toks := t } := I.un (h' := s.heap) (t' := t) Un.refl I.hok
theorem Inv.kept {t' : Nat} (I : Inv X pins σ H s) (k : ∀ b u, s.heap.get? b = some u → h'.get? b = some u) : Inv X pins σ H { s with heap := h', toks := t' } := I.un (Un.kept k) (I.hok.kept k)
theorem Inv.laid {a : Addr} {o : HO} {t' : Nat} (I : Inv X pins σ H s) (k : ∀ b u, s.heap.get? b = some u → h'.get? b = some u) (hp : s.heap.objs.size ≤ a) (new : yW X.prog X.w (upd H a o) h' a o) :
    Inv X pins σ (upd H a o) { s with heap := h', toks := t' } := I.un (Un.laid k hp (I.hok.fresh hp)) (I.hok.laid k hp new)
theorem Inv.write {x e : Addr} {o : HO} {t' : Nat} (I : Inv X pins σ H s) (mu : Mut (H x)) (he : e = x ∨ H e = some (.own x)) (k : ∀ b u, b ≠ e → s.heap.get? b = some u → h'.get? b = some u) (heo : ∃ u, h'.get? e = some u)
    (new : yW X.prog X.w (upd H x o) h' x o) : Inv X pins σ (upd H x o) { s with heap := h', toks := t' } := I.un (Un.write mu he k heo) (I.hok.write mu he k heo new)
theorem Inv.weak {σ' : List (Option V)} (I : Inv X pins σ H s) (hl : σ'.length = σ.length) (w : ∀ (i : Nat) v, σ'[i]? = some (some v) → σ[i]? = some (some v)) : Inv X pins σ' H s :=
  ⟨I.ok, I.os, I.bare, I.base, let ⟨m, hn, hl'⟩ := I.loc; ⟨m, hn, fun i x v e1 e2 e3 => hl' i x v e1 (w i v e2) e3⟩, I.cell, I.free, I.freeC, I.pin, I.hok, hl.trans I.len⟩
theorem Inv.pins_of {pins' : List (Addr × Obj)} (I : Inv X pins σ H s) (h : ∀ p ∈ pins', s.heap.get? p.1 = some p.2 ∧ H p.1 = none ∧ p.1 ≠ X.env.locals ∧ p.1 ∉ X.fs ∧ ∀ v, p.2.data ≠ .cell v) : Inv X pins' σ H s :=
  ⟨I.ok, I.os, I.bare, I.base, I.loc, I.cell, I.free, I.freeC, fun p hp => (List.mem_append.mp hp).elim (fun z => I.pin p (List.mem_append_left _ z)) (h p), I.hok, I.len⟩
theorem Y6 {N : List Str} (hN : N.Nodup) {i j : Nat} {x : Str} (a : N[i]? = some x) (b : N[j]? = some x) : i = j := by
  obtain ⟨h1, e1⟩ := List.getElem?_eq_some_iff.mp a
  obtain ⟨h2, e2⟩ := List.getElem?_eq_some_iff.mp b
  exact (List.getElem_inj hN).mp (e1.trans e2.symm)
theorem Yk {M : Model} {A : Around} {E : Value → Shared → Prop} {i : Nat} {x : Str} {v : V} {u : Value} {Q : Unit → Shared → Prop} (I : Inv X pins σ H s) (hN : X.N.Nodup) (hi : X.N[i]? = some x) (hx : Loc X.env.scope x) (r : RelV v u)
    (h : ∀ s', Inv X pins (σ.set i (some v)) H s' → (∃ a, Heap.SameBut a s.heap s'.heap ∧ (a = X.env.locals ∨ X.env.cells.lookup x = some a)) → Q () s') (hf : X.fn x = true ∨ X.env.scope.names.lookup x = some .local := by first | exact .inl rfl | exact .inr rfl | assumption) : wpAny M A (storeName X.env x u) Q E s := by
  obtain ⟨m, hn, hl⟩ := id I.loc
  have hcls : (X.env.scope.kind == .class || (X.env.scope.kind == .module && X.env.locals != X.env.globals)) = false := by rw [I.ok.kind]; rfl
  have hiσ : i < σ.length := by rw [I.len]; exact (List.getElem?_eq_some_iff.mp hi).1
  have cne := I.cne
  have tracked : ∀ {a : Addr} {h' : Heap}, (∃ o, s.heap.get? a = some o ∧ H a = none) → Heap.SameBut a s.heap h' → HOk X.prog X.w H h' := fun {a h'} ha hs b ob e => by
    obtain ⟨_, _, hfree⟩ := ha
    refine (I.hok b ob e).stay (fun c w' hc q => (hs.2 c ?_).trans q) (fun _ q => q) fun _ _ q => q
    rintro rfl
    rcases hc with rfl | hc
    · rw [hfree] at e; cases e
    · rw [hfree] at hc; cases hc
  rcases hx with hk | hk
  · refine wpAny_storeName_local hk hn (fun h' hn' hs => ?_) hcls
    obtain ⟨oL, _, _, hoL, _⟩ := id hn
    refine h _ ⟨I.ok, I.os, I.bare, ⟨fun b o e n hb hx => ?_, fun b o e n hb hx => ?_, I.base.free, fun b o e hx => ?_, I.base.tups, I.base.frzs, I.base.tbls⟩, ⟨_, hn', fun j y v' e1 e2 e3 => ?_⟩, fun y c e => ?_, I.free, I.freeC, fun p hp => ?_, tracked ⟨oL, hoL, I.free⟩ hs, by simpa using I.len⟩ ⟨_, hs, .inl rfl⟩
    · exact (hs.2 b (Nat.ne_of_lt (Nat.lt_of_lt_of_le (Heap.lt_size e) I.ok.above))).trans (I.base.keep b o e n hb hx)
    · obtain ⟨sl, e1⟩ := I.base.slot b o e n hb hx
      exact ⟨sl, (hs.2 b (Nat.ne_of_lt (Nat.lt_of_lt_of_le (Heap.lt_size e) I.ok.above))).trans e1⟩
    · obtain ⟨o', e1⟩ := I.base.there b o e hx
      exact ⟨o', (hs.2 b (Nat.ne_of_lt (Nat.lt_of_lt_of_le (Heap.lt_size e) I.ok.above))).trans e1⟩
    · by_cases hj : j = i
      · subst hj
        rw [hi] at e1; cases e1
        rw [List.getElem?_set_self hiσ] at e2
        cases e2
        exact ⟨u, r, .inl ⟨hk, by simp⟩⟩
      · rw [List.getElem?_set_ne (Ne.symm hj)] at e2
        obtain ⟨u', r', q⟩ := hl j y v' e1 e2 e3
        refine ⟨u', r', ?_⟩
        rcases q with ⟨k, e⟩ | ⟨k, c, e, z⟩
        · refine .inl ⟨k, ?_⟩
          have : y ≠ x := fun e => hj (Y6 hN e1 (e ▸ hi))
          simp [this, e]
        · exact .inr ⟨k, c, e, z.sameBut hs (cne y c e)⟩
    · obtain ⟨w', z⟩ := I.cell y c e
      exact ⟨w', z.sameBut hs (cne y c e)⟩
    · obtain ⟨e, n, ne, nf, d⟩ := I.pin p hp
      exact ⟨(hs.2 p.1 ne).trans e, n, ne, nf, d⟩
  · have hfn : X.fn x = true := by
      rcases hf with z | z
      · exact z
      · rw [z] at hk; cases hk
    obtain ⟨c, hc⟩ := I.ok.has x (.inl hk)
    obtain ⟨w', z⟩ := I.cell x c hc
    refine wpAny_storeName_cell I.ok.kind hk hc z (fun h' hc' hs => ?_)
    obtain ⟨oc, hoc, hocd⟩ := id z
    refine h { s with heap := h' } ⟨I.ok, I.os, I.bare, ⟨fun b o e n hb hx => ?_, fun b o e n hb hx => ?_, I.base.free, fun b o e hx => ?_, I.base.tups, I.base.frzs, I.base.tbls⟩, ⟨m, hn.sameBut hs (Ne.symm (cne x c hc)), fun j y v' e1 e2 e3 => ?_⟩, fun y c' e => ?_, I.free, I.freeC, fun p hp => ?_, tracked ⟨oc, hoc, I.freeC x c hc⟩ hs, by simpa using I.len⟩ ⟨c, hs, .inr hc⟩
    · exact (hs.2 b (Nat.ne_of_lt (Nat.lt_of_lt_of_le (Heap.lt_size e) (I.ok.cab x c hfn hc)))).trans (I.base.keep b o e n hb hx)
    · obtain ⟨sl, e1⟩ := I.base.slot b o e n hb hx
      exact ⟨sl, (hs.2 b (Nat.ne_of_lt (Nat.lt_of_lt_of_le (Heap.lt_size e) (I.ok.cab x c hfn hc)))).trans e1⟩
    · obtain ⟨o', e1⟩ := I.base.there b o e hx
      exact ⟨o', (hs.2 b (Nat.ne_of_lt (Nat.lt_of_lt_of_le (Heap.lt_size e) (I.ok.cab x c hfn hc)))).trans e1⟩
    · by_cases hj : j = i
      · subst hj
        rw [hi] at e1; cases e1
        rw [List.getElem?_set_self hiσ] at e2
        cases e2
        exact ⟨u, r, .inr ⟨.inl hk, c, hc, hc'⟩⟩
      · rw [List.getElem?_set_ne (Ne.symm hj)] at e2
        obtain ⟨u', r', q⟩ := hl j y v' e1 e2 e3
        refine ⟨u', r', ?_⟩
        rcases q with q | ⟨k, c', e, z'⟩
        · exact .inl q
        · refine .inr ⟨k, c', e, z'.sameBut hs ?_⟩
          rintro rfl
          exact hj (Y6 hN e1 (I.ok.inj _ _ _ e hc ▸ hi))
    · by_cases hcc : c' = c
      · subst hcc; exact ⟨_, hc'⟩
      · obtain ⟨w2, z2⟩ := I.cell y c' e
        exact ⟨w2, z2.sameBut hs hcc⟩
    · obtain ⟨e, n, ne, nf, d⟩ := I.pin p hp
      refine ⟨(hs.2 p.1 ?_).trans e, n, ne, nf, d⟩
      intro q
      rw [q, hoc] at e
      have q' : oc = p.2 := Option.some.inj e
      exact d w' (by rw [← q']; exact hocd)
theorem qB {M : Model} {A : Around} {E : Value → Shared → Prop} {i : Nat} {x : Str} {v : V} {u : Value} {Q : Unit → Shared → Prop} (I : Inv X pins σ H s) (hN : X.N.Nodup) (hi : X.N[i]? = some x) (hx : Loc X.env.scope x) (r : RelV v u)
    (h : ∀ s', Inv X pins (σ.set i (some v)) H s' → Q () s') (hf : X.fn x = true ∨ X.env.scope.names.lookup x = some .local := by first | exact .inl rfl | exact .inr rfl | assumption) : wpAny M A (storeName X.env x u) Q E s :=
  Yk I hN hi hx r (fun s' I' _ => h s' I') hf
theorem Inv.call' {s' : Shared} {ch : List Addr} (I : Inv X pins σ H s) (ho : s'.os = s.os) (u : Un (frs X.stack) ch H H' s.heap s'.heap) (hok : HOk X.prog X.w H' s'.heap) (hg : AllBare s'.gens)
    (hch : ∀ b ∈ ch, (b ∈ X.ex ∨ X.s₀.heap.objs.size ≤ b) ∧ b ≠ X.env.locals ∧ (∀ x c, X.env.cells.lookup x = some c → c ≠ b) ∧ ∀ p ∈ X.pn ++ pins, p.1 ≠ b) : Inv X pins σ H' s' := by
  obtain ⟨h', g', d', t', o'⟩ := s'
  have e : o' = s.os := ho
  subst e
  exact I.call (g' := g') (t' := t') (d' := d') u hok hg hch
end
noncomputable abbrev XK := Value → Option Addr → Hp → Prop
noncomputable abbrev St := List (Option V)
noncomputable abbrev VK := V → Hp → Prop
noncomputable abbrev TE := St → Hp → VK → Prop
noncomputable abbrev TT := St → Hp → (Bool → Hp → Prop) → Prop
noncomputable abbrev TA := St → Hp → (List V → Hp → Prop) → Prop
structure Ends where
  nx : St → Hp → Prop
  rt : VK
  bk : St → Hp → Prop := fun _ _ => False
  ct : St → Hp → Prop := fun _ _ => False
noncomputable abbrev TS := Ends → St → Hp → Prop
noncomputable def EP (X : Cx) (pins : List (Addr × Obj)) (σ : St) (Q : VK) (u : Value) (s' : Shared) : Prop := ∃ v H', Inv X pins σ H' s' ∧ RelV v u ∧ Q v H'
noncomputable def TP (X : Cx) (pins : List (Addr × Obj)) (σ : St) (Q : Bool → Hp → Prop) (b : Bool) (s' : Shared) : Prop := ∃ H', Inv X pins σ H' s' ∧ Q b H'
noncomputable def AP (X : Cx) (pins : List (Addr × Obj)) (σ : St) (Q : List V → Hp → Prop) (us : List Value) (s' : Shared) : Prop := ∃ vs H', Inv X pins σ H' s' ∧ Vals vs us ∧ Q vs H'
noncomputable def SP (X : Cx) (pins : List (Addr × Obj)) (D : Ends) (f : Flow) (s' : Shared) : Prop :=
  match f with
  | .next => ∃ σ' H', Inv X pins σ' H' s' ∧ D.nx σ' H'
  | .brk => ∃ σ' H', Inv X pins σ' H' s' ∧ D.bk σ' H'
  | .cont => ∃ σ' H', Inv X pins σ' H' s' ∧ D.ct σ' H'
  | .ret u => ∃ v σ' H', Inv X pins σ' H' s' ∧ RelV v u ∧ D.rt v H'
noncomputable def PE (X : Cx) (e : Expr) (t : TE) : Prop :=
  ∀ (pins : List (Addr × Obj)) (s : Shared) (σ : St) (H : Hp) (Q : VK), Inv X pins σ H s → t σ H Q → wpAny (model X.prog X.w) X.A (eval e X.env) (EP X pins σ Q) X.xe s
noncomputable def PT (X : Cx) (e : Expr) (t : TT) : Prop :=
  ∀ (pins : List (Addr × Obj)) (s : Shared) (σ : St) (H : Hp) (Q : Bool → Hp → Prop), Inv X pins σ H s → t σ H Q → wpAny (model X.prog X.w) X.A (isTrue e X.env (eval e X.env)) (TP X pins σ Q) X.xe s
noncomputable def PW (X : Cx) (e : Expr) (t : TT) : Prop :=
  ∀ (whole : Sem Value) (pins : List (Addr × Obj)) (s : Shared) (σ : St) (H : Hp) (Q : Bool → Hp → Prop), Inv X pins σ H s → t σ H Q → wpAny (model X.prog X.w) X.A (isTrue e X.env whole) (TP X pins σ Q) X.xe s
theorem PW.pt {X : Cx} {e : Expr} {t : TT} (h : PW X e t) : PT X e t := h _
noncomputable def PA (X : Cx) (es : List Expr) (t : TA) : Prop :=
  ∀ (pos : Pos) (pins : List (Addr × Obj)) (s : Shared) (σ : St) (H : Hp) (Q : List V → Hp → Prop), Inv X pins σ H s → t σ H Q → wpAny (model X.prog X.w) X.A (spliced (backTo pos (starEach es X.env))) (AP X pins σ Q) X.xe s
noncomputable def PS (X : Cx) (st : Stmt) (t : TS) : Prop :=
  ∀ (pins : List (Addr × Obj)) (s : Shared) (σ : St) (H : Hp) (D : Ends), Inv X pins σ H s → t D σ H → wpAny (model X.prog X.w) X.A (exec st X.env) (SP X pins D) X.xe s
noncomputable def PSs (X : Cx) (st : List Stmt) (t : TS) : Prop :=
  ∀ (pins : List (Addr × Obj)) (s : Shared) (σ : St) (H : Hp) (D : Ends), Inv X pins σ H s → t D σ H → wpAny (model X.prog X.w) X.A (execs st X.env) (SP X pins D) X.xe s
theorem thn {α : Type} {t : Sem α} {Q Q' : α → Shared → Prop} {M : Model} {A : Around} {E : Value → Shared → Prop} {s : Shared} (h : wpAny M A t Q E s) (hQ : ∀ a s, Q a s → Q' a s) : wpAny M A t Q' E s := wpAny_mono h hQ fun _ _ x => x
end L2
namespace L2
open PySem PySem.Spec PyProof.Rows
section
variable {X : Cx}
noncomputable def Ud (i : Nat) : TE := fun σ H Q => ∃ v, σ[i]? = some (some v) ∧ Q v H
noncomputable def tC (v : V) : TE := fun _ H Q => Q v H
theorem zb4 {i : Nat} {x : Str} {pos : Pos} (hN : X.N[i]? = some x) (hv : Vis X.env.scope x) (hd : (x == ("__debug__" : Str)) = false := by decide) (hcd : (x == ("__classdict__" : Str)) = false := by decide) : PE X (.Name x pos) (Ud i) := by
  intro pins s σ H Q I h
  obtain ⟨v, e, h⟩ := h
  obtain ⟨m, hn, hl⟩ := I.loc
  obtain ⟨u, r, l⟩ := hl i x v hN e hv
  have fin : EP X pins σ Q u s := ⟨v, H, I, r, h⟩
  rcases l with ⟨hk, hm⟩ | ⟨hk, c, hc, hcell⟩
  · exact wpAny_Name (wpAny_loadName_local I.ok.kind hk hn hm fin) hd
  · rcases hk with hk | hk
    · exact wpAny_Name (wpAny_loadName_cell I.ok.kind hk hc hcell fin) hd
    · exact wpAny_Name (wpAny_loadName_free I.ok.kind hk hc hcell fin hcd) hd
theorem zc {i j pos} : PE X (.Constant (.int i) j pos) (tC (.int i)) := fun _ _ _ H _ I h => wpAny_Constant_int ⟨.int i, H, I.tok _, ⟨_, rfl⟩, h⟩
theorem xr {b j pos} : PE X (.Constant (.bool b) j pos) (tC (.bl b)) := fun _ _ _ H _ I h => Constant_bool ⟨.bl b, H, I, rfl, h⟩
theorem xt {j pos} : PE X (.Constant .none j pos) (tC .non) := fun _ _ _ H _ I h => Constant_none ⟨.non, H, I, rfl, h⟩
theorem ze {x j pos} : PE X (.Constant (.str x) j pos) (tC (.str x)) := fun _ _ _ H _ I h => Calls.Constant_str ⟨.str x, H, I.tok _, ⟨_, rfl⟩, h⟩
noncomputable def Gl (X : Cx) (x : Str) : Prop := X.env.kindOf x = some .globalImplicit
theorem ZO {E : Value → Shared → Prop} {pins : List (Addr × Obj)} {s : Shared} {σ : St} {H : Hp} {x : Str} {u : Value} {pos : Pos} {Q : Value → Shared → Prop} (I : Inv X pins σ H s) (hg : Gl X x) (hm : X.mg x = some u) (h : Q u s)
    (hd : (x == ("__debug__" : Str)) = false := by decide) : wpAny (model X.prog X.w) X.A (eval (.Name x pos) X.env) Q E s :=
  Calls.Name_function_global I.ok.kind hg (Calls.loadGlobal_global (by rw [I.ok.glob]; exact I.mod.glob.keeps I.bk) hm h) hd
theorem uy {E : Value → Shared → Prop} {pins : List (Addr × Obj)} {s : Shared} {σ : St} {H : Hp} {x : Str} {u : Value} {pos : Pos} {Q : Value → Shared → Prop} (I : Inv X pins σ H s) (hg : Gl X x) (hm : X.mg x = none) (hv : bootBuiltins x = some u) (h : Q u s)
    (hn : x ≠ "__name__" := by decide) (hd : (x == ("__debug__" : Str)) = false := by decide) : wpAny (model X.prog X.w) X.A (eval (.Name x pos) X.env) Q E s := by
  obtain ⟨mb, h1, h2⟩ := I.mod.blt
  exact Calls.Name_function_global I.ok.kind hg (Calls.loadGlobal_builtin (by rw [I.ok.glob]; exact I.mod.glob.keeps I.bk) hm (by rw [I.ok.blt]; exact h1.keeps I.bk) ((h2 x hn).trans hv) h) hd
theorem ZP {x : Str} {v : V} {u : Value} {pos : Pos} (hg : Gl X x) (hm : X.mg x = some u) (r : RelV v u) (hd : (x == ("__debug__" : Str)) = false := by decide) : PE X (.Name x pos) (tC v) :=
  fun _ _ _ H _ I h => ZO I hg hm ⟨v, H, I, r, h⟩ hd
theorem ZQ {x : Str} {v : V} {u : Value} {pos : Pos} (hg : Gl X x) (hm : X.mg x = none) (hv : bootBuiltins x = some u) (r : RelV v u) (hn : x ≠ "__name__" := by decide) (hd : (x == ("__debug__" : Str)) = false := by decide) : PE X (.Name x pos) (tC v) :=
  fun _ _ _ H _ I h => uy I hg hm hv ⟨v, H, I, r, h⟩ hn hd
variable {a b : Expr} {ta tb : TE} {pos : Pos}
noncomputable def tB (t : TE) : TT := fun σ H Q => t σ H fun x H1 => ∃ c, x = .bl c ∧ Q c H1
theorem xb {e : Expr} {t : TE} (h : PE X e t) (he : ∀ whole, isTrue e X.env whole = (do let v ← whole; standAt e.pos; holding [v] (truthy v)) := by intro _; rfl) : PT X e (tB t) := by
  intro pins s σ H Q I hw
  refine isTrue_plain (thn (h pins s σ H _ I hw) fun v s1 ⟨x, H1, I1, r1, q1⟩ => ?_) (he _)
  obtain ⟨d, rfl, q⟩ := q1
  cases r1
  exact wpAny_truthy_bool ⟨H1, I1, q⟩
variable {tA tB' : TT} {xS : List Expr}
noncomputable def zb5 (t u : TT) : TT := fun σ H Q => t σ H fun c H1 => if c = true then u σ H1 Q else Q false H1
noncomputable def tOr (t u : TT) : TT := fun σ H Q => t σ H fun c H1 => if c = true then Q true H1 else u σ H1 Q
noncomputable def JD (t : TT) : TT := fun σ H Q => t σ H fun c H1 => Q (!c) H1
theorem qp (ha : PT X a tA) : PW X (.BoolOp .And [a] pos) tA := by
  intro wh pins s σ H Q I h
  refine isTrue_and (thn (ha pins s σ H Q I h) fun c s1 e => ?_)
  cases c with
  | true => exact isTrue_and_nil e
  | false => exact e
theorem ji (ha : PT X a tA) : PW X (.BoolOp .Or [a] pos) tA := by
  intro wh pins s σ H Q I h
  refine isTrue_or (thn (ha pins s σ H Q I h) fun c s1 e => ?_)
  cases c with
  | false => exact isTrue_or_nil e
  | true => exact e
theorem jj (ha : PT X a tA) (hb : PW X (.BoolOp .And (b :: xS) pos) tB') : PW X (.BoolOp .And (a :: b :: xS) pos) (zb5 tA tB') := by
  intro wh pins s σ H Q I h
  refine isTrue_and (thn (ha pins s σ H _ I h) fun c s1 ⟨H1, I1, q1⟩ => ?_)
  cases c with
  | true => exact hb wh pins s1 σ H1 Q I1 q1
  | false => exact ⟨H1, I1, q1⟩
theorem kW (ha : PT X a tA) (hb : PW X (.BoolOp .Or (b :: xS) pos) tB') : PW X (.BoolOp .Or (a :: b :: xS) pos) (tOr tA tB') := by
  intro wh pins s σ H Q I h
  refine isTrue_or (thn (ha pins s σ H _ I h) fun c s1 ⟨H1, I1, q1⟩ => ?_)
  cases c with
  | true => exact ⟨H1, I1, q1⟩
  | false => exact hb wh pins s1 σ H1 Q I1 q1
theorem kX (ha : PT X a tA) : PT X (.UnaryOp .Not a pos) (JD tA) := by
  intro pins s σ H Q I h
  exact isTrue_not (ha pins s σ H (fun c H1 => Q (!c) H1) I h)
noncomputable def K7 (ta tb : TE) : TE := fun σ H Q => ta σ H fun x H1 => ∃ c, x = .bl c ∧ if c = true then tb σ H1 Q else Q (.bl false) H1
noncomputable def K8 (ta : TE) : TE := fun σ H Q => ta σ H fun x H1 => ∃ c, x = .bl c ∧ Q (.bl (!c)) H1
theorem kY {op} {t : TE} (h : PE X a t) : PE X (.BoolOp op [a] pos) t := fun pins s σ H Q I hw => BoolOp_one (h pins s σ H Q I hw)
theorem jk (ha : PE X a ta) (hb : PE X (.BoolOp .And (b :: xS) pos) tb) : PE X (.BoolOp .And (a :: b :: xS) pos) (K7 ta tb) := by
  intro pins s σ H Q I h
  refine BoolOp_and (thn (ha pins s σ H _ I h) fun v s1 ⟨x, H1, I1, r1, q1⟩ => ?_)
  obtain ⟨c, rfl, q1⟩ := q1
  cases r1
  refine wpAny_truthy_bool ?_
  cases c with
  | true => exact hb pins s1 σ H1 Q I1 q1
  | false => exact ⟨.bl false, H1, I1, rfl, q1⟩
theorem zb6 (ha : PE X a ta) : PE X (.UnaryOp .Not a pos) (K8 ta) := by
  intro pins s σ H Q I h
  refine UnaryOp_ (thn (ha pins s σ H _ I h) fun v s1 ⟨x, H1, I1, r1, q1⟩ => ?_)
  obtain ⟨c, rfl, q1⟩ := q1
  cases r1
  exact not_of (wpAny_truthy_bool ⟨.bl (!c), H1, I1, rfl, q1⟩)
noncomputable def tIf (t : TT) (ta tb : TE) : TE := fun σ H Q => t σ H fun c H1 => if c = true then ta σ H1 Q else tb σ H1 Q
theorem xz {c : Expr} (hc : PT X c tA) (ha : PE X a ta) (hb : PE X b tb) : PE X (.IfExp c a b pos) (tIf tA ta tb) := by
  intro pins s σ H Q I h
  refine wpAny_IfExp (thn (hc pins s σ H _ I h) fun d s1 ⟨H1, I1, q1⟩ => ?_)
  cases d with
  | true => exact ha pins s1 σ H1 Q I1 q1
  | false => exact hb pins s1 σ H1 Q I1 q1
end
end L2
namespace L2
open PySem PySem.Spec PyProof.Rows
noncomputable def SqL (K : PySem.W.Frag) (H : Hp) (a : Addr) (xs : List V) : Prop :=
  Rd H a (.lst xs) ∨
    ∃ (o : Obj) (its : Array Value) (n : Nat), K.lookup a = some o ∧ o.cls = .type "list" ∧ o.dict = none ∧ o.data = .seq its n ∧ its.size ≤ sizeLine ∧ Vals xs its.toList
noncomputable def SqT (K : PySem.W.Frag) (H : Hp) (a : Addr) (xs : List V) : Prop :=
  Rd H a (.tup xs) ∨
    ∃ (o : Obj) (its : Array Value) (n : Nat), K.lookup a = some o ∧ o.cls = .type "tuple" ∧ o.data = .seq its n ∧ its.size ≤ sizeLine ∧ Vals xs its.toList
noncomputable def zeb : Value → Option V
  | .none => some .non
  | .bool b => some (.bl b)
  | .int i _ => some (.int i)
  | .str x _ => some (.str x)
  | .bytes b _ => some (.byt b)
  | .float b _ => some (.flt b)
  | .ref a => some (.ref a)
  | .type n => some (.ty n)
  | _ => none
theorem RelV.abs {x : V} {u : Value} (r : RelV x u) : zeb u = some x := by
  cases x with
  | non => cases r; rfl
  | bl _ => cases r; rfl
  | int _ => obtain ⟨t, rfl⟩ := r; rfl
  | str _ => obtain ⟨t, rfl⟩ := r; rfl
  | byt _ => obtain ⟨t, rfl⟩ := r; rfl
  | flt _ => obtain ⟨t, rfl⟩ := r; rfl
  | ref _ => cases r; rfl
  | ty _ => cases r; rfl
theorem RelV.inj {x y : V} {u : Value} (r : RelV x u) (q : RelV y u) : x = y := Option.some.inj (r.abs.symm.trans q.abs)
theorem Vals.inj : ∀ {xs ys : List V} {us : List Value}, Vals xs us → Vals ys us → xs = ys
  | _, _, _, .nil, .nil => rfl
  | _, _, _, .cons r t, .cons r' t' => by rw [r.inj r', Vals.inj t t']
section
variable {X : Cx} {pins : List (Addr × Obj)} {σ : St} {H : Hp} {s : Shared} {a : Addr} {xs ys : List V}
theorem SqL.of {K : PySem.W.Frag} (h : H a = some (.lst xs)) : SqL K H a xs := .inl (.inl h)
theorem SqT.of {K : PySem.W.Frag} (h : H a = some (.tup xs)) : SqT K H a xs := .inl (.inl h)
theorem Inv.list (I : Inv X pins σ H s) (h : SqL X.K H a xs) : ∃ its : List Value, Vals xs its ∧ PlainL s.heap a its.toArray ∧ xs.length ≤ sizeLine := by
  rcases h with h | ⟨o, its, n, hk, hc, hd, hs, hz, r⟩
  · obtain ⟨z, its, n, r, e⟩ := h.ok I.hok
    exact ⟨its, r, ⟨_, n, e, rfl, rfl, rfl⟩, z⟩
  · refine ⟨its.toList, r, ⟨o, n, I.kIn a o hk, hc, hd, by simpa using hs⟩, ?_⟩
    have e := r.length
    simp only [Array.length_toList] at e
    omega
theorem Inv.tuple (I : Inv X pins σ H s) (h : SqT X.K H a xs) : ∃ its : List Value, Vals xs its ∧ IsTup s.heap a its.toArray ∧ xs.length ≤ sizeLine := by
  rcases h with h | ⟨o, its, n, hk, hc, hs, hz, r⟩
  · obtain ⟨z, its, r, p⟩ := h.ok I.hok
    exact ⟨its, r, p, z⟩
  · refine ⟨its.toList, r, ⟨o, I.kIn a o hk, hc, n, by simpa using hs⟩, ?_⟩
    have e := r.length
    simp only [Array.length_toList] at e
    omega
theorem Inv.list_inj (I : Inv X pins σ H s) (h : SqL X.K H a xs) (h' : SqL X.K H a ys) : xs = ys := by
  obtain ⟨its, r, ⟨o, n, e, _, _, d⟩, _⟩ := I.list h
  obtain ⟨its', r', ⟨o', n', e', _, _, d'⟩, _⟩ := I.list h'
  rw [e] at e'; cases e'
  rw [d] at d'
  injection d' with d1 _
  have : its = its' := by simpa using congrArg Array.toList d1
  subst this
  exact r.inj r'
theorem Inv.tuple_inj (I : Inv X pins σ H s) (h : SqT X.K H a xs) (h' : SqT X.K H a ys) : xs = ys := by
  obtain ⟨its, r, ⟨o, e, _, n, d⟩, _⟩ := I.tuple h
  obtain ⟨its', r', ⟨o', e', _, n', d'⟩, _⟩ := I.tuple h'
  rw [e] at e'; cases e'
  rw [d] at d'
  injection d' with d1 _
  have : its = its' := by simpa using congrArg Array.toList d1
  subst this
  exact r.inj r'
end
noncomputable abbrev Cx.wish (X : Cx) (E : Value → Shared → Prop) : Cx := { X with xe := E }
noncomputable abbrev Cx.nox (X : Cx) : Cx := X.wish fun _ _ => False
theorem Cx.Ok.wish {X : Cx} (ok : X.Ok) (E : Value → Shared → Prop) : (X.wish E).Ok :=
  ⟨ok.mod, ok.kind, ok.glob, ok.blt, ok.above, ok.inj, ok.has, ok.cab, ok.hd, ok.frames, ok.stk, ok.exf, ok.bs, ok.bsz, ok.noex, ok.exfs, ok.funs, ok.frf⟩
theorem Cx.Ok.unwish {X : Cx} {E : Value → Shared → Prop} (ok : (X.wish E).Ok) : X.Ok :=
  ⟨ok.mod, ok.kind, ok.glob, ok.blt, ok.above, ok.inj, ok.has, ok.cab, ok.hd, ok.frames, ok.stk, ok.exf, ok.bs, ok.bsz, ok.noex, ok.exfs, ok.funs, ok.frf⟩
section
variable {X : Cx} {pins : List (Addr × Obj)} {σ : St} {H : Hp} {s : Shared} {E : Value → Shared → Prop}
theorem Inv.wish (I : Inv X pins σ H s) (E : Value → Shared → Prop) : Inv (X.wish E) pins σ H s := ⟨I.ok.wish E, I.os, I.bare, I.base, I.loc, I.cell, I.free, I.freeC, I.pin, I.hok, I.len⟩
theorem Inv.unwish (I : Inv (X.wish E) pins σ H s) : Inv X pins σ H s := ⟨I.ok.unwish, I.os, I.bare, I.base, I.loc, I.cell, I.free, I.freeC, I.pin, I.hok, I.len⟩
theorem SP.unwish {D : Ends} {f : Flow} {s' : Shared} (h : SP (X.wish E) pins D f s') : SP X pins D f s' := by
  cases f with
  | next => obtain ⟨σ', H', I, q⟩ := h; exact ⟨σ', H', I.unwish, q⟩
  | brk => obtain ⟨σ', H', I, q⟩ := h; exact ⟨σ', H', I.unwish, q⟩
  | cont => obtain ⟨σ', H', I, q⟩ := h; exact ⟨σ', H', I.unwish, q⟩
  | ret u => obtain ⟨v, σ', H', I, r, q⟩ := h; exact ⟨v, σ', H', I.unwish, r, q⟩
theorem PE.nox {e : Expr} {t : TE} (h : PE X.nox e t) : PE X e t := fun pins s σ H Q I hw =>
  wpAny_mono (h pins s σ H Q (I.wish _) hw) (fun _ _ ⟨v, H', I', r, q⟩ => ⟨v, H', I'.unwish, r, q⟩) fun _ _ z => False.elim z
theorem PT.nox {e : Expr} {t : TT} (h : PT X.nox e t) : PT X e t := fun pins s σ H Q I hw =>
  wpAny_mono (h pins s σ H Q (I.wish _) hw) (fun _ _ ⟨H', I', q⟩ => ⟨H', I'.unwish, q⟩) fun _ _ z => False.elim z
theorem PSs.nox {st : List Stmt} {t : TS} (h : PSs X.nox st t) : PSs X st t := fun pins s σ H D I hw =>
  wpAny_mono (h pins s σ H D (I.wish _) hw) (fun _ _ q => q.unwish) fun _ _ z => False.elim z
end
section
variable {X : Cx} {st : Stmt} {xS : List Stmt} {t u : TS} {e : Expr} {te : TE} {pos : Pos}
noncomputable def K9 : TS := fun D σ H => D.nx σ H
noncomputable def JE (t u : TS) : TS := fun D σ H => t { D with nx := u D } σ H
theorem yx : PSs X [] K9 := fun _ _ σ H _ I h => wpAny_execs_nil ⟨σ, H, I, h⟩
theorem zb (h1 : PS X st t) (h2 : PSs X xS u) : PSs X (st :: xS) (JE t u) := by
  intro pins s σ H D I h
  refine wpAny_execs_cons (thn (h1 pins s σ H { D with nx := u D } I h) fun f s1 q => ?_)
  cases f with
  | next =>
    obtain ⟨σ', H', I', q⟩ := q
    exact h2 pins s1 σ' H' D I' q
  | ret v => exact q
  | brk => exact q
  | cont => exact q
theorem zf (h1 : PS X st t) : PSs X [st] t := by
  intro pins s σ H D I h
  refine wpAny_execs_cons (thn (h1 pins s σ H D I h) fun f s1 q => ?_)
  cases f with
  | next => exact wpAny_execs_nil q
  | ret v => exact q
  | brk => exact q
  | cont => exact q
theorem Inv.quiet {pins : List (Addr × Obj)} {σ : St} {H : Hp} {s : Shared} (I : Inv X pins σ H s) : interactive X.env = false := by simp [interactive, I.ok.kind]
noncomputable def Ue (te : TE) : TS := fun D σ H => te σ H fun _ H1 => D.nx σ H1
theorem yn (he : PE X e te) (hs : swapsWith e none pos.line X.env = pure false := by rfl) : PS X (.Expr e pos) (Ue te) := by
  intro pins s σ H D I h
  exact wpAny_Expr_any (thn (he pins s σ H _ I h) fun v s1 ⟨x, H1, I1, r1, q1⟩ => ⟨σ, H1, I1, q1⟩) I.quiet hs
noncomputable def zb7 (te : TE) : TS := fun D σ H => te σ H D.rt
theorem yl (he : PE X e te) : PS X (.Return (some e) pos) (zb7 te) := by
  intro pins s σ H D I h
  exact wpAny_Return_some (thn (he pins s σ H _ I h) fun v s1 ⟨x, H1, I1, r1, q1⟩ => ⟨x, σ, H1, I1, r1, q1⟩)
noncomputable def Uf (c : TT) (t u : TS) : TS := fun D σ H => c σ H fun b H1 => if b = true then t D σ H1 else u D σ H1
theorem yG {c : Expr} {a b : List Stmt} {tc : TT} (hc : PT X c tc) (ha : PSs X a t) (hb : PSs X b u) : PS X (.If c a b pos) (Uf tc t u) := by
  intro pins s σ H D I h
  refine wpAny_If (thn (hc pins s σ H _ I h) fun d s1 ⟨H1, I1, q1⟩ => ?_)
  cases d with
  | true => exact ha pins s1 σ H1 D I1 q1
  | false => exact hb pins s1 σ H1 D I1 q1
noncomputable def QE : TS := fun _ _ _ => False
theorem JF : PS X st QE := fun _ _ _ _ _ _ h => h.elim
end
noncomputable abbrev TG := V → St → Hp → (St → Hp → Prop) → Prop
noncomputable abbrev TGs := List V → St → Hp → (St → Hp → Prop) → Prop
noncomputable def PG (X : Cx) (target : Expr) (t : TG) : Prop :=
  ∀ (pins : List (Addr × Obj)) (s : Shared) (σ : St) (H : Hp) (v : V) (u : Value) (Q : St → Hp → Prop), Inv X pins σ H s → RelV v u → t v σ H Q →
    wpAny (model X.prog X.w) X.A (assign target X.env u) (fun _ s' => ∃ σ' H', Inv X pins σ' H' s' ∧ Q σ' H') X.xe s
noncomputable def PGs (X : Cx) (ts : List Expr) (t : TGs) : Prop :=
  ∀ (pins : List (Addr × Obj)) (s : Shared) (σ : St) (H : Hp) (vs : List V) (us : List Value) (Q : St → Hp → Prop), Inv X pins σ H s → Vals vs us → t vs σ H Q →
    wpAny (model X.prog X.w) X.A (assignInOrder ((assignEach ts X.env).map (·.2)) us) (fun _ s' => ∃ σ' H', Inv X pins σ' H' s' ∧ Q σ' H') X.xe s
noncomputable abbrev JG := V → V → V → Hp → (Hp → Prop) → Prop
noncomputable def zb8 (X : Cx) (t : JG) : Prop :=
  ∀ (pins : List (Addr × Obj)) (s : Shared) (σ : St) (H : Hp) (o i v : V) (ov iv u : Value) (Q : Hp → Prop), Inv X pins σ H s → RelV o ov → RelV i iv → RelV v u → t o i v H Q →
    wpAny (model X.prog X.w) X.A (setItem ov iv u) (fun _ s' => ∃ H', Inv X pins σ H' s' ∧ Q H') X.xe s
section
variable {X : Cx} {pos : Pos}
noncomputable def jX (i : Nat) : TG := fun v σ H Q => Q (σ.set i (some v)) H
theorem yI {i : Nat} {x : Str} (hN : X.N.Nodup) (hi : X.N[i]? = some x) (hx : Loc X.env.scope x) (hf : X.fn x = true ∨ X.env.scope.names.lookup x = some .local := by first | exact .inl rfl | exact .inr rfl | assumption) : PG X (.Name x pos) (jX i) := by
  intro pins s σ H v u Q I r h
  exact wpAny_assign_Name (qB I hN hi hx r (fun s' I' => ⟨_, H, I', h⟩) hf)
noncomputable def zb9 : TGs := fun vs σ H Q => vs = [] ∧ Q σ H
noncomputable def zaa (t : TG) (u : TGs) : TGs := fun vs σ H Q => ∃ v r, vs = v :: r ∧ t v σ H fun σ' H' => u r σ' H' Q
theorem VN : PGs X [] zb9 := by
  intro pins s σ H vs us Q I r h
  obtain ⟨e, h⟩ := h
  subst e
  cases r
  exact assignInOrder_nil ⟨σ, H, I, h⟩
theorem vK {e : Expr} {es : List Expr} {t : TG} {u : TGs} (h1 : PG X e t) (h2 : PGs X es u)
    (hs : (assignEach (e :: es) X.env).map (·.2) = assign e X.env :: (assignEach es X.env).map (·.2) := by rfl) : PGs X (e :: es) (zaa t u) := by
  intro pins s σ H vs us Q I r h
  obtain ⟨v, vr, e1, h⟩ := h
  subst e1
  cases r with
  | cons r rr =>
    rw [hs]
    refine assignInOrder_cons (thn (h1 pins s σ H _ _ _ I r h) fun _ s1 ⟨σ1, H1, I1, q1⟩ => ?_)
    exact h2 pins s1 σ1 H1 _ _ Q I1 rr q1
noncomputable def JH (K : PySem.W.Frag) (n : Nat) (t : TGs) : TG := fun v σ H Q => ∃ a xs, v = .ref a ∧ SqT K H a xs ∧ xs.length = n ∧ t xs σ H Q
theorem zca {es : List Expr} {k : Nat} {t : TGs} {n : Nat} (hc : X.calm = true) (h : PGs X es t)
    (hn : (assignEach es X.env).length = n := by rfl) (hst : (assignEach es X.env).findIdx? (·.1) = none := by rfl) : PG X (.Tuple es k pos) (JH X.K n t) := by
  intro pins s σ H v u Q I r hw
  obtain ⟨a, xs, e1, hq, hl, hw⟩ := hw
  subst e1
  cases r
  obtain ⟨its, rv, ht, hz⟩ := I.tuple hq
  refine assign_Tuple_tuple (I.ok.hd hc) ht (by simp [hn, ← hl, rv.length]) hst fun h' hx => ?_
  have I1 : Inv X pins σ H { s with heap := h' } := I.kept (t' := s.toks) fun b o e => hx b o (Nat.ne_of_lt (Heap.lt_size e)) e
  exact h pins _ σ H xs _ Q I1 (by simpa using rv) hw
noncomputable def JI (to ti : TE) (t : JG) : TG := fun v σ H Q => to σ H fun o H1 => ti σ H1 fun i H2 => t o i v H2 fun H3 => Q σ H3
theorem vC {o i : Expr} {to ti : TE} {t : JG} (ho : PE X o to) (hi : PE X i ti) (hs : zb8 X t)
    (ha : ∀ v, assign (.Subscript o i pos) X.env v = (do
      let ov ← holding [v] (eval o X.env)
      let iv ← holding [v, ov] (eval i X.env)
      standAt pos
      holding [v, ov, iv] (setItem ov iv v)
      release [v, ov, iv] []) := by intro _; rfl) : PG X (.Subscript o i pos) (JI to ti t) := by
  intro pins s σ H v u Q I r h
  rw [ha]
  refine wpAny_bind (wpAny_holding (thn (ho pins s σ H _ I h) fun ov s1 ⟨x, H1, I1, r1, q1⟩ => ?_))
  refine wpAny_bind (wpAny_holding (thn (hi pins s1 σ H1 _ I1 q1) fun iv s2 ⟨y, H2, I2, r2, q2⟩ => ?_))
  refine wpAny_bind (wpAny_standAt (wpAny_bind (wpAny_holding (thn (hs pins s2 σ H2 x y v ov iv u _ I2 r1 r2 r q2) fun _ s3 ⟨H3, I3, q3⟩ => ?_))))
  exact wpAny_release ⟨σ, H3, I3, q3⟩
noncomputable def ZR (te : TE) (g : TG) : TS := fun D σ H => te σ H fun x H1 => g x σ H1 D.nx
theorem vc {tg e : Expr} {te : TE} {g : TG} (he : PE X e te) (hg : PG X tg g) (hs : swapsWithSole [tg] e pos.line X.env = pure false := by rfl) (hw : swappedStores [tg] e X.env = pure none := by rfl)
    (h1 : (assignEach [tg] X.env).map (·.2) = [assign tg X.env] := by rfl) : PS X (.Assign [tg] e pos) (ZR te g) := by
  intro pins s σ H D I h
  refine wpAny_Assign_stores (thn (he pins s σ H _ I h) fun v s1 ⟨x, H1, I1, r1, q1⟩ => ?_) hs hw
  rw [h1]
  exact thn (hg pins s1 σ H1 x v _ I1 r1 q1) fun _ s2 q => q
theorem z0 {i : Nat} {x : Str} {e : Expr} {te : TE} {pos' : Pos} (hN : X.N.Nodup) (hi : X.N[i]? = some x) (hx : Loc X.env.scope x) (he : PE X e te) (hs : swapsWith e (some (.Name x pos')) pos.line X.env = pure false := by rfl) (hf : X.fn x = true ∨ X.env.scope.names.lookup x = some .local := by first | exact .inl rfl | exact .inr rfl | assumption) :
    PS X (.Assign [.Name x pos'] e pos) (ZR te (jX i)) := by
  intro pins s σ H D I h
  refine wpAny_Assign_Name (thn (he pins s σ H _ I h) fun v s1 ⟨y, H1, I1, r1, q1⟩ => ?_) hs
  exact qB I1 hN hi hx r1 (fun s2 I2 => ⟨_, H1, I2, q1⟩) hf
noncomputable def zcb (i j : Nat) (ta : TA) : TS := fun D σ H => ta σ H fun vs H1 => ∃ v w, vs = [v, w] ∧ D.nx ((σ.set i (some v)).set j (some w)) H1
theorem kZ {i j : Nat} {x y : Str} {a b : Expr} {ta : TA} {px py pt : Pos} {kt k2 pt2} (hc : X.calm = true) (hN : X.N.Nodup) (hi : X.N[i]? = some x) (hj : X.N[j]? = some y) (hij : i ≠ j)
    (hx : X.env.scope.names.lookup x = some .local) (hy : X.env.scope.names.lookup y = some .local) (ha : PA X [a, b] ta)
    (hw : swappedStores [.Tuple [.Name x px, .Name y py] kt pt] (.Tuple [a, b] k2 pt2) X.env = pure (some [x, y]))
    (hs : swapsWithSole [.Tuple [.Name x px, .Name y py] kt pt] (.Tuple [a, b] k2 pt2) pos.line X.env = pure false := by rfl) :
    PS X (.Assign [.Tuple [.Name x px, .Name y py] kt pt] (.Tuple [a, b] k2 pt2) pos) (zcb i j ta) := by
  intro pins s σ H D I h
  rw [exec_Assign_arm]
  refine wpAny_bind (wpAny_standAt ?_)
  rw [hs]
  refine wpAny_bind (wpAny_pure ?_)
  rw [if_neg (by decide)]
  refine wpAny_bind (Tuple_ (thn (ha _ pins s σ H _ I h) fun us s1 ⟨vs, H1, I1, r1, q1⟩ => ?_))
  obtain ⟨v, w, e1, q1⟩ := q1
  subst e1
  obtain ⟨u1, u2, rfl, rv, rw'⟩ : ∃ u1 u2, us = [u1, u2] ∧ RelV v u1 ∧ RelV w u2 := by
    cases r1 with
    | cons p q =>
      cases q with
      | cons p' q' =>
        cases q'
        exact ⟨_, _, rfl, p, p'⟩
  refine wpAny_newObj_type ?_ (by show 2 ≤ sizeLine; decide)
  have I2 : Inv X pins σ H1 { s1 with heap := s1.heap.push { cls := .type "tuple", data := .seq [u1, u2].toArray } } := I1.kept (t' := s1.toks) fun b o e => Heap.get?_push_of_some _ e
  rw [hw]
  refine wpAny_bind (wpAny_pure ?_)
  show wpAny (model X.prog X.w) X.A (do rule "assign.swapped-stores"; let items ← unpackItems (.ref s1.heap.objs.size) 2 none; assignInOrder [fun v => bindName X.env y v, fun v => bindName X.env x v] items.reverse; pure Flow.next) _ _ _
  refine wpAny_bind (wpAny_rule (wpAny_bind (unpackItems_tuple (items := #[u1, u2]) (I.ok.hd hc) (IsTup.new s1.heap _) fun h' hx' => ?_)))
  have I3 := I2.kept (h' := h') (t' := s1.toks) fun b o e => hx' b o (Nat.ne_of_lt (Heap.lt_size e)) e
  show wpAny _ _ (assignInOrder [fun v => bindName X.env y v, fun v => bindName X.env x v] [u2, u1] >>= fun _ => pure Flow.next) _ _ _
  refine wpAny_bind (assignInOrder_cons (wpAny_bindName (qB I3 hN hj (.inl hy) rw' (fun s2 I4 => ?_) (.inr hy))))
  refine assignInOrder_cons (wpAny_bindName (qB I4 hN hi (.inl hx) rv (fun s3 I5 => assignInOrder_nil (wpAny_pure ?_)) (.inr hx)))
  rw [List.set_comm _ _ (Ne.symm hij)] at I5
  exact ⟨_, H1, I5, q1⟩
end
section
variable {X : Cx} {pos : Pos}
end
structure It where
  go : Nat → Hp → Prop
  yld : Nat → Hp → V → Hp → Prop
  stop : Nat → Hp → Prop
noncomputable def FpOk (X : Cx) (pins : List (Addr × Obj)) (H : Hp) (b : Addr) : Prop :=
  H b = none ∧ b ≠ X.env.locals ∧ b ∉ X.fs ∧ (b ∈ X.ex ∨ X.s₀.heap.objs.size ≤ b) ∧ (∀ x c, X.env.cells.lookup x = some c → c ≠ b) ∧ ∀ p ∈ X.pn ++ pins, p.1 ≠ b
theorem Inv.fpOk {X : Cx} {pins : List (Addr × Obj)} {σ : St} {H H' : Hp} {s : Shared} {b : Addr} (I : Inv X pins σ H s) (hb : s.heap.objs.size ≤ b) (hn : H' b = none) : FpOk X pins H' b := by
  refine ⟨hn, Nat.ne_of_gt (Nat.lt_of_lt_of_le I.lt hb), I.nofs hb, .inr (Nat.le_trans I.sz hb), fun x c e z => ?_, fun p hp z => ?_⟩
  · obtain ⟨v, q⟩ := I.cell x c e
    exact absurd (Nat.lt_of_lt_of_le q.lt (by rw [z]; exact hb)) (Nat.lt_irrefl _)
  · exact absurd (Nat.lt_of_lt_of_le (Heap.lt_size (I.pin p hp).1) (by rw [z]; exact hb)) (Nat.lt_irrefl _)
structure Turn (P : Program) (w : World) (K : PySem.W.Frag) (tg : Expr) (J : It) (fp : List Addr) (it : Addr) (tn : Nat → Heap → Prop) : Prop where
  mem : it ∈ fp
  obj : ∀ i h, tn i h → ∀ b ∈ fp, ∃ o, h.get? b = some o ∧ ∀ v, o.data ≠ .cell v
  keep : ∀ i h h', tn i h → (∀ b ∈ fp, ∀ o, h.get? b = some o → h'.get? b = some o) → tn i h'
  item : ∀ (X : Cx), X.prog = P → X.w = w → X.K = K → X.calm = true → ∀ (i : Nat) (pins : List (Addr × Obj)) (s : Shared) (σ : St) (H : Hp) (E : Value → Shared → Prop), Inv X pins σ H s → (∀ b ∈ fp, FpOk X pins H b) → tn i s.heap → J.go i H →
    wpAny (model P w) X.A (pyNext (.ref it)) (fun r s1 => ∃ u, r = some u ∧
      wpAny (model P w) X.A (letOwnedTupleGo tg (.ref it) u) (fun _ s2 => ∃ x H', Inv X pins σ H' s2 ∧ RelV x u ∧ J.yld i H x H' ∧ tn (i + 1) s2.heap ∧ ∀ b ∈ fp, H' b = none) E s1) E s
  done : ∀ (X : Cx), X.prog = P → X.w = w → X.K = K → X.calm = true → ∀ (i : Nat) (pins : List (Addr × Obj)) (s : Shared) (σ : St) (H : Hp) (E : Value → Shared → Prop), Inv X pins σ H s → (∀ b ∈ fp, FpOk X pins H b) → tn i s.heap → J.stop i H →
    wpAny (model P w) X.A (pyNext (.ref it)) (fun r s1 => r = none ∧ Inv X pins σ H s1) E s
  self : ∀ (A : Around) (i : Nat) (s : Shared) (Q : Value → Shared → Prop) (E : Value → Shared → Prop), tn i s.heap → Q (.ref it) s → wpAny (model P w) A (pyIter (.ref it)) Q E s
noncomputable abbrev TI := St → Hp → (It → Hp → Prop) → Prop
noncomputable def PIE (X : Cx) (pins : List (Addr × Obj)) (σ : St) (tg : Expr) (R : It → Hp → Prop) (itv : Value) (s2 : Shared) : Prop :=
  ∃ (it : Addr) (fp : List Addr) (tn : Nat → Heap → Prop) (J : It) (H' : Hp), itv = .ref it ∧ Inv X pins σ H' s2 ∧ Turn X.prog X.w X.K tg J fp it tn ∧ tn 0 s2.heap ∧ (∀ b ∈ fp, FpOk X pins H' b) ∧ R J H'
noncomputable def PI (X : Cx) (tg iter : Expr) (wi : TI) : Prop :=
  ∀ (pins : List (Addr × Obj)) (s : Shared) (σ : St) (H : Hp) (R : It → Hp → Prop), Inv X pins σ H s → wi σ H R →
    wpAny (model X.prog X.w) X.A (eval iter X.env) (fun v s1 => wpAny (model X.prog X.w) X.A (pyIter v) (PIE X pins σ tg R) X.xe s1) X.xe s
theorem YM {M : Model} {A : Around} {E : Value → Shared → Prop} {s : Shared} {tg : Expr} {it : Addr} {u : Value} {o : Obj} {n : String} {vs : Array Value} {Q : Unit → Shared → Prop} (ho : s.heap.get? it = some o) (hc : o.cls = .type n) (hd : o.data = .fields vs)
    (hn : ["enumerate", "zip", "dict_itemiterator", "dict_reverseitemiterator", "odict_iterator", "itertools.zip_longest", "itertools.pairwise"].contains n = false) (hQ : Q () s) : wpAny M A (letOwnedTupleGo tg (.ref it) u) Q E s := by
  unfold letOwnedTupleGo
  cases tg <;> first
    | exact wpAny_pure hQ
    | (cases u <;> first
        | exact wpAny_pure hQ
        | (refine wpAny_bind (wpAny_load ho ?_)
           rw [hc, hd]
           show wpAny M A (if (["enumerate", "zip", "dict_itemiterator", "dict_reverseitemiterator", "odict_iterator", "itertools.zip_longest", "itertools.pairwise"].contains n && vs[0]? == some (rawInt _)) = true then _ else _) Q E s
           rw [if_neg (by intro h; rw [hn, Bool.false_and] at h; cases h)]
           exact wpAny_pure hQ))
noncomputable def Itl (K : PySem.W.Frag) (a : Addr) : It :=
  ⟨fun i H => ∃ xs x, SqL K H a xs ∧ xs[i]? = some x, fun i H x H' => H' = H ∧ ∀ xs, SqL K H a xs → xs[i]? = some x, fun i H => ∃ xs, SqL K H a xs ∧ xs.length ≤ i⟩
noncomputable def Itt (K : PySem.W.Frag) (a : Addr) : It :=
  ⟨fun i H => ∃ xs x, SqT K H a xs ∧ xs[i]? = some x, fun i H x H' => H' = H ∧ ∀ xs, SqT K H a xs → xs[i]? = some x, fun i H => ∃ xs, SqT K H a xs ∧ xs.length ≤ i⟩
noncomputable def Itr (lo : Int) (n : Nat) : It := ⟨fun i _ => i < n, fun i H x H' => H' = H ∧ x = .int (lo + i), fun i _ => n ≤ i⟩
theorem QF {P : Program} {w : World} {K : PySem.W.Frag} {tg : Expr} (a it : Addr) : Turn P w K tg (Itl K a) [it] it (fun i h => h.IsListIter it a i) where
  mem := by simp
  obj := fun i h st b hb => by
    have e : b = it := by simpa using hb
    subst e
    obtain ⟨o, e, c, d⟩ := st
    exact ⟨o, e, fun v z => by rw [d] at z; cases z⟩
  keep := fun i h h' st k => st.at fun o e => k it (by simp) o e
  item := by
    intro X hP hw hK hc i pins s σ H E I hf st hg
    subst hP hw hK
    obtain ⟨xs, x, hq, hx⟩ := hg
    obtain ⟨its, rv, p, hz⟩ := I.list hq
    obtain ⟨u, hu, ru⟩ := rv.get hx
    obtain ⟨f0, f1, f2, f3, f4, f5⟩ := hf it (by simp)
    refine wpAny_pyNext_list_item st p.isList (x := u) (by simpa using hu) fun h' st' sb => ?_
    have I1 : Inv X pins σ H { s with heap := h' } := I.turned (t' := s.toks) (fun b o hb e => (sb.2 b hb).trans e) f0 f1 f3 f4 f5
    obtain ⟨o, e, c, d⟩ := id st'
    exact ⟨u, rfl, YM (s := { s with heap := h' }) e c d (by decide) ⟨x, H, I1, ru, ⟨rfl, fun ys hy => by rw [I.list_inj hy hq]; exact hx⟩, st', fun b hb => (hf b hb).1⟩⟩
  done := by
    intro X hP hw hK hc i pins s σ H E I hf st hg
    subst hP hw hK
    obtain ⟨xs, hq, hx⟩ := hg
    obtain ⟨its, rv, p, hz⟩ := I.list hq
    obtain ⟨f0, f1, f2, f3, f4, f5⟩ := hf it (by simp)
    have hl := rv.length
    exact wpAny_pyNext_list_end (I.ok.hd hc) st p.isList (by simp; omega) fun h' eb => ⟨rfl, I.turned (t' := s.toks) (fun b o hb e => eb b o hb e) f0 f1 f3 f4 f5⟩
  self := fun _ _ _ _ _ st h => wpAny_pyIter_listiter st h
theorem Ug {P : Program} {w : World} {K : PySem.W.Frag} {tg : Expr} (a it : Addr) : Turn P w K tg (Itt K a) [it] it (fun i h => h.IsTupleIter it a i) where
  mem := by simp
  obj := fun i h st b hb => by
    have e : b = it := by simpa using hb
    subst e
    obtain ⟨o, e, c, d⟩ := st
    exact ⟨o, e, fun v z => by rw [d] at z; cases z⟩
  keep := fun i h h' st k => st.at fun o e => k it (by simp) o e
  item := by
    intro X hP hw hK hc i pins s σ H E I hf st hg
    subst hP hw hK
    obtain ⟨xs, x, hq, hx⟩ := hg
    obtain ⟨its, rv, p, hz⟩ := I.tuple hq
    obtain ⟨u, hu, ru⟩ := rv.get hx
    obtain ⟨f0, f1, f2, f3, f4, f5⟩ := hf it (by simp)
    refine wpAny_pyNext_tuple_item st (show s.heap.IsTuple a its.toArray from p) (x := u) (by simpa using hu) fun h' st' sb => ?_
    have I1 : Inv X pins σ H { s with heap := h' } := I.turned (t' := s.toks) (fun b o hb e => (sb.2 b hb).trans e) f0 f1 f3 f4 f5
    obtain ⟨o, e, c, d⟩ := id st'
    exact ⟨u, rfl, YM (s := { s with heap := h' }) e c d (by decide) ⟨x, H, I1, ru, ⟨rfl, fun ys hy => by rw [I.tuple_inj hy hq]; exact hx⟩, st', fun b hb => (hf b hb).1⟩⟩
  done := by
    intro X hP hw hK hc i pins s σ H E I hf st hg
    subst hP hw hK
    obtain ⟨xs, hq, hx⟩ := hg
    obtain ⟨its, rv, p, hz⟩ := I.tuple hq
    obtain ⟨f0, f1, f2, f3, f4, f5⟩ := hf it (by simp)
    have hl := rv.length
    exact wpAny_pyNext_tuple_end (I.ok.hd hc) st (show s.heap.IsTuple a its.toArray from p) (by simp; omega) fun h' eb => ⟨rfl, I.turned (t' := s.toks) (fun b o hb e => eb b o hb e) f0 f1 f3 f4 f5⟩
  self := fun _ _ _ _ _ st h => wpAny_pyIter_tupleiter st h
theorem Uh {P : Program} {w : World} {K : PySem.W.Frag} {tg : Expr} (it : Addr) (lo : Int) (n : Nat) : Turn P w K tg (Itr lo n) [it] it (fun i h => IsRangeIter h it (lo + (i : Nat) * 1) ((n : Int) - (i : Nat)) 1) where
  mem := by simp
  obj := fun i h st b hb => by
    have e : b = it := by simpa using hb
    subst e
    exact ⟨_, st, fun v z => by
      have z' : Data.fields _ = Data.cell v := z
      cases z'⟩
  keep := fun i h h' st k => k it (by simp) _ st
  item := by
    intro X hP hw hK hc i pins s σ H E I hf st hg
    subst hP hw hK
    obtain ⟨f0, f1, f2, f3, f4, f5⟩ := hf it (by simp)
    have W := Walks.range (prog := X.prog) (w := X.w) (I.ok.hd hc) it lo 1 n
    refine W.item i s _ _ hg st fun v h' tk hv st' kk => ?_
    obtain ⟨t, rfl⟩ := hv
    have I1 : Inv X pins σ H { s with heap := h', toks := tk } := I.turned (fun b o hb e => kk b o (by simpa using hb) e) f0 f1 f3 f4 f5
    refine ⟨_, rfl, YM (s := { s with heap := h', toks := tk }) (n := "range_iterator") st' rfl rfl (by decide) ⟨.int (lo + i), H, I1, ⟨t, ?_⟩, ⟨rfl, rfl⟩, st', fun b hb => (hf b hb).1⟩⟩
    rw [Int.mul_one]
  done := by
    intro X hP hw hK hc i pins s σ H E I hf st hg
    subst hP hw hK
    obtain ⟨f0, f1, f2, f3, f4, f5⟩ := hf it (by simp)
    exact wpAny_pyNext_range_end (I.ok.hd hc) st (by have : n ≤ i := hg; omega) fun h' eb => ⟨rfl, I.turned (t' := s.toks) (fun b o hb e => eb b o hb e) f0 f1 f3 f4 f5⟩
  self := fun _ _ _ _ _ st h => wpAny_pyIter_rangeiter st h
end L2
namespace L2
open PySem PySem.Spec PyProof.Rows
section
variable {X : Cx} {tg : Expr}
noncomputable def Ui (K : PySem.W.Frag) (tl : TE) : TI := fun σ H R => tl σ H fun x H1 => ∃ a, x = .ref a ∧ (∃ xs, SqL K H1 a xs) ∧ R (Itl K a) H1
noncomputable def JJ (K : PySem.W.Frag) (tl : TE) : TI := fun σ H R => tl σ H fun x H1 => ∃ a, x = .ref a ∧ (∃ xs, SqT K H1 a xs) ∧ R (Itt K a) H1
theorem zaT {l : Expr} {tl : TE} (hl : PE X l tl) : PI X tg l (Ui X.K tl) := by
  intro pins s σ H R I h
  refine thn (hl pins s σ H _ I h) fun v s1 ⟨x, H1, I1, r1, q1⟩ => ?_
  obtain ⟨a, e, ⟨xs, hq⟩, q⟩ := q1
  subst e
  cases r1
  obtain ⟨its, rv, p, hz⟩ := I1.list hq
  refine wpAny_pyIter_list p.isList ?_
  refine ⟨s1.heap.objs.size, [s1.heap.objs.size], _, _, H1, rfl, I1.kept (t' := s1.toks) fun b o e => Heap.get?_push_of_some _ e, QF a _, ⟨_, Heap.get?_push_size _ rfl, rfl, rfl⟩, fun b hb => ?_, q⟩
  have e : b = s1.heap.objs.size := by simpa using hb
  subst e
  exact I1.fpOk (Nat.le_refl _) (I1.hok.fresh (Nat.le_refl _))
theorem zcc {l : Expr} {tl : TE} (hl : PE X l tl) : PI X tg l (JJ X.K tl) := by
  intro pins s σ H R I h
  refine thn (hl pins s σ H _ I h) fun v s1 ⟨x, H1, I1, r1, q1⟩ => ?_
  obtain ⟨a, e, ⟨xs, hq⟩, q⟩ := q1
  subst e
  cases r1
  obtain ⟨its, rv, p, hz⟩ := I1.tuple hq
  refine wpAny_pyIter_tuple (show s1.heap.IsTuple a its.toArray from p) ?_
  refine ⟨s1.heap.objs.size, [s1.heap.objs.size], _, _, H1, rfl, I1.kept (t' := s1.toks) fun b o e => Heap.get?_push_of_some _ e, Ug a _, ⟨_, Heap.get?_push_size _ rfl, rfl, rfl⟩, fun b hb => ?_, q⟩
  have e : b = s1.heap.objs.size := by simpa using hb
  subst e
  exact I1.fpOk (Nat.le_refl _) (I1.hok.fresh (Nat.le_refl _))
theorem Y7 {pins : List (Addr × Obj)} {σ : St} {H : Hp} {s : Shared} {R : It → Hp → Prop} {E : Value → Shared → Prop} {lo hi : Int} {t u v : Tok} {tk : Nat} (I : Inv X pins σ H s) (h1 : -(2 ^ 62) ≤ lo) (h2 : lo < 2 ^ 62) (h3 : -(2 ^ 62) ≤ hi) (h4 : hi < 2 ^ 62)
    (q : R (Itr lo (hi - lo).toNat) H) : wpAny (model X.prog X.w) X.A (pyIter (.ref s.heap.objs.size)) (PIE X pins σ tg R) E { s with heap := s.heap.push { cls := .type "range", data := .fields #[.int lo t, .int hi u, .int 1 v] }, toks := tk } := by
  refine wpAny_pyIter_range (IsRange.new ..) (small_one h1 h2 h3 h4) ?_
  have I1 : Inv X pins σ H { s with heap := s.heap.push { cls := .type "range", data := .fields #[.int lo t, .int hi u, .int 1 v] }, toks := tk } := I.kept fun b o e => Heap.get?_push_of_some _ e
  refine ⟨(s.heap.push { cls := .type "range", data := .fields #[.int lo t, .int hi u, .int 1 v] }).objs.size, [(s.heap.push { cls := .type "range", data := .fields #[.int lo t, .int hi u, .int 1 v] }).objs.size], _, _, H, rfl,
    I1.kept (t' := tk) fun b o e => Heap.get?_push_of_some _ e, Uh _ lo (hi - lo).toNat, ?_, fun b hb => ?_, q⟩
  · have e1 : lo + ((0 : Nat) : Int) * 1 = lo := by simp
    have e2 : (((hi - lo).toNat : Nat) : Int) - ((0 : Nat) : Int) = Builtin.Range.rangeSize lo hi 1 := by rw [rangeSize_one]; split <;> omega
    show IsRangeIter _ _ (lo + ((0 : Nat) : Int) * 1) ((((hi - lo).toNat : Nat) : Int) - ((0 : Nat) : Int)) 1
    rw [e1, e2]
    exact Heap.get?_push_size _ rfl
  · have e : b = (s.heap.push { cls := .type "range", data := .fields #[.int lo t, .int hi u, .int 1 v] }).objs.size := by simpa using hb
    subst e
    exact I1.fpOk (Nat.le_refl _) (I1.hok.fresh (Nat.le_refl _))
noncomputable def Uj (ta : TA) : TI := fun σ H R => ta σ H fun vs H1 => ∃ j : Int, vs = [.int j] ∧ -(2 ^ 62) ≤ j ∧ j < 2 ^ 62 ∧ R (Itr 0 j.toNat) H1
noncomputable def Uk (ta : TA) : TI := fun σ H R => ta σ H fun vs H1 => ∃ i j : Int, vs = [.int i, .int j] ∧ (-(2 ^ 62) ≤ i ∧ i < 2 ^ 62 ∧ -(2 ^ 62) ≤ j ∧ j < 2 ^ 62) ∧ R (Itr i (j - i).toNat) H1
theorem xH {a : Expr} {ta : TA} {p pos : Pos} (hg : Gl X "range") (hm : X.mg "range" = none) (ha : PA X [a] ta) (hs : starEach [a] X.env = [(false, eval a X.env)] := by rfl) : PI X tg (.Call (.Name "range" p) [a] [] pos) (Uj ta) := by
  intro pins s σ H R I h
  refine Call_ (uy I hg hm boot_range (PyProof.Rows.callWith_type1 (thn (ha pos pins s σ H _ I h) fun us s1 ⟨vs, H1, I1, r1, q1⟩ => ?_) hs rfl))
  obtain ⟨j, e, q1, q2, q⟩ := q1
  subst e
  cases r1 with
  | cons r rr =>
    cases rr
    obtain ⟨t, rfl⟩ := r
    exact call_range_1 (Y7 I1 (by omega) (by omega) q1 q2 (by simpa using q))
theorem vB {a b : Expr} {ta : TA} {p pos : Pos} (hg : Gl X "range") (hm : X.mg "range" = none) (ha : PA X [a, b] ta) (hs : starEach [a, b] X.env = [(false, eval a X.env), (false, eval b X.env)] := by rfl) (hs2 : starEach [b] X.env = [(false, eval b X.env)] := by rfl) :
    PI X tg (.Call (.Name "range" p) [a, b] [] pos) (Uk ta) := by
  intro pins s σ H R I h
  refine Call_ (uy I hg hm boot_range (PyProof.Rows.callWith_type1 (thn (ha pos pins s σ H _ I h) fun us s1 ⟨vs, H1, I1, r1, q1⟩ => ?_) (by rw [hs, hs2]) (by rw [hs2]; rfl)))
  obtain ⟨i, j, e, ⟨q1, q2, q3, q4⟩, q⟩ := q1
  subst e
  cases r1 with
  | cons r rr =>
    cases rr with
    | cons r' rr =>
      cases rr
      obtain ⟨t, rfl⟩ := r
      obtain ⟨t', rfl⟩ := r'
      exact call_range_2 (Y7 I1 q1 q2 q3 q4 q)
noncomputable def JK (wi : TI) (g : TG) (tb : TS) : TS := fun D σ H => wi σ H fun J H1 => ∃ W : Nat → Nat → St → Hp → Prop, (∃ m, W 0 m σ H1) ∧ ∀ i m σ H, W i m σ H →
  (J.stop i H ∧ D.nx σ H) ∨ (J.go i H ∧ ∃ N : St → Hp → Prop, (∀ σ' H', N σ' H' → ∃ m', m' < m ∧ W (i + 1) m' σ' H') ∧ ∀ x H', J.yld i H x H' → g x σ H' fun σ2 H2 => tb { D with nx := N, ct := N, bk := D.nx } σ2 H2)
noncomputable def jm (fp : List Addr) (h : Heap) : List (Addr × Obj) := fp.filterMap fun b => (h.get? b).map fun o => (b, o)
theorem uo {fp : List Addr} {h : Heap} {b : Addr} {o : Obj} (hb : b ∈ fp) (e : h.get? b = some o) : (b, o) ∈ jm fp h := List.mem_filterMap.mpr ⟨b, hb, by rw [e]; rfl⟩
theorem QG {fp : List Addr} {h : Heap} {p : Addr × Obj} (hp : p ∈ jm fp h) : p.1 ∈ fp ∧ h.get? p.1 = some p.2 := by
  obtain ⟨b, hb, e⟩ := List.mem_filterMap.mp hp
  cases q : h.get? b with
  | none => rw [q] at e; cases e
  | some o =>
    rw [q] at e
    have e' : (b, o) = p := Option.some.inj e
    subst e'
    exact ⟨hb, q⟩
theorem Inv.pinned {pins : List (Addr × Obj)} {σ : St} {H : Hp} {s : Shared} {fp : List Addr} (I : Inv X pins σ H s) (hf : ∀ b ∈ fp, FpOk X pins H b) (ho : ∀ b ∈ fp, ∃ o, s.heap.get? b = some o ∧ ∀ v, o.data ≠ .cell v) : Inv X (pins ++ jm fp s.heap) σ H s :=
  I.pins_of fun p hp => (List.mem_append.mp hp).elim (fun z => I.pin p (List.mem_append_right _ z)) fun z => by
    obtain ⟨hb, e⟩ := QG z
    obtain ⟨f0, f1, f2, _⟩ := hf p.1 hb
    obtain ⟨o, e', d⟩ := ho p.1 hb
    rw [e] at e'; cases e'
    exact ⟨e, f0, f1, f2, d⟩
theorem Inv.unpinned {pins pl : List (Addr × Obj)} {σ : St} {H : Hp} {s : Shared} (I : Inv X (pins ++ pl) σ H s) : Inv X pins σ H s := I.pins_of fun p hp => I.pin p (List.mem_append_right _ (List.mem_append_left _ hp))
theorem xE {iter : Expr} {body : List Stmt} {wi : TI} {g : TG} {tb : TS} {pos : Pos} (hp : PassesOwn (model X.prog X.w) X.A X.env X.xe) (hc : X.calm = true) (hi : PI X tg iter wi) (hg : PG X tg g) (hb : PSs X body tb)
    (hs : ∀ x, foldedSetIterable iter X.env x = pure x := by intro _; rfl) : PS X (.For tg iter body [] pos) (JK wi g tb) := by
  intro pins s σ H D I h
  refine wpAny_For (thn (hi pins s σ H _ I h) fun v s1 h1 => thn h1 fun itv s2 h2 => ?_) hs
  obtain ⟨it, fp, tn, J, H2, e, I2, T, st2, f2, W, ⟨m0, w0⟩, turn⟩ := h2
  subst e
  have stat : ∀ {H' : Hp}, (∀ b ∈ fp, H' b = none) → ∀ b ∈ fp, FpOk X pins H' b := fun hn b hb => ⟨hn b hb, (f2 b hb).2⟩
  refine codeAny_forLoop_any (fun n s' => ∃ i σ' H', Inv X pins σ' H' s' ∧ tn i s'.heap ∧ (∀ b ∈ fp, H' b = none) ∧ W i n σ' H') ?_ m0 ⟨0, σ, H2, I2, st2, fun b hb => (f2 b hb).1, w0⟩
  rintro n s3 ⟨i, σ3, H3, I3, st3, fr3, w3⟩
  rcases turn i n σ3 H3 w3 with ⟨stop, qn⟩ | ⟨go, N, hN, step⟩
  · refine wpAny_passesOwn hp (thn (T.done X rfl rfl rfl hc i pins s3 σ3 H3 X.xe I3 (stat fr3) st3 stop) fun r s4 ⟨hr, I4⟩ => ?_)
    subst hr
    exact wpAny_execs_nil ⟨σ3, H3, I4, qn⟩
  · refine wpAny_passesOwn hp (thn (T.item X rfl rfl rfl hc i pins s3 σ3 H3 X.xe I3 (stat fr3) st3 go) fun r s4 ⟨u, hr, h4⟩ => ?_)
    subst hr
    refine wpAny_passesOwn hp (thn h4 fun _ s5 ⟨x, H5, I5, r5, y5, st5, fr5⟩ => ?_)
    have I5' := I5.pinned (stat fr5) (T.obj _ _ st5)
    refine wpAny_passesOwn hp (thn (hg _ s5 σ3 H5 x u _ I5' r5 (step x H5 y5)) fun _ s6 ⟨σ6, H6, I6, q6⟩ => ?_)
    refine wpAny_passesOwn hp (thn (hb _ s6 σ6 H6 _ I6 q6) fun f s7 q7 => ?_)
    have again : ∀ {σ7 : St} {H7 : Hp}, Inv X (pins ++ jm fp s5.heap) σ7 H7 s7 → N σ7 H7 → ∃ m, m < n ∧ ∃ i σ' H', Inv X pins σ' H' s7 ∧ tn i s7.heap ∧ (∀ b ∈ fp, H' b = none) ∧ W i m σ' H' := fun {σ7 H7} I7 n7 => by
      obtain ⟨m', hm, w7⟩ := hN σ7 H7 n7
      refine ⟨m', hm, i + 1, σ7, H7, I7.unpinned, T.keep _ _ _ st5 fun b hb o e => (I7.pin (b, o) (List.mem_append_right _ (List.mem_append_right _ (uo hb e)))).1, fun b hb => ?_, w7⟩
      obtain ⟨o, e, d⟩ := T.obj _ _ st5 b hb
      exact (I7.pin (b, o) (List.mem_append_right _ (List.mem_append_right _ (uo hb e)))).2.1
    cases f with
    | next => obtain ⟨σ7, H7, I7, n7⟩ := q7; exact again I7 n7
    | cont => obtain ⟨σ7, H7, I7, n7⟩ := q7; exact again I7 n7
    | brk => obtain ⟨σ7, H7, I7, q7⟩ := q7; exact ⟨σ7, H7, I7.unpinned, q7⟩
    | ret v => obtain ⟨x7, σ7, H7, I7, r7, q7⟩ := q7; exact ⟨x7, σ7, H7, I7.unpinned, r7, q7⟩
end
theorem JL {K : PySem.W.Frag} {a : Addr} {xs : List V} {g : TG} {tb : TS} {D : Ends} {σ : St} {H : Hp} (Pv : Nat → St → Hp → Prop) (h0 : Pv 0 σ H) (hl : ∀ i σ H, i ≤ xs.length → Pv i σ H → SqL K H a xs)
    (hs : ∀ i x σ H, xs[i]? = some x → Pv i σ H → g x σ H fun σ2 H2 => tb { D with nx := Pv (i + 1), ct := Pv (i + 1), bk := D.nx } σ2 H2) (hd : ∀ σ H, Pv xs.length σ H → D.nx σ H) :
    ∃ W : Nat → Nat → St → Hp → Prop, (∃ m, W 0 m σ H) ∧ ∀ i m σ H, W i m σ H →
      ((Itl K a).stop i H ∧ D.nx σ H) ∨ ((Itl K a).go i H ∧ ∃ N : St → Hp → Prop, (∀ σ' H', N σ' H' → ∃ m', m' < m ∧ W (i + 1) m' σ' H') ∧ ∀ x H', (Itl K a).yld i H x H' → g x σ H' fun σ2 H2 => tb { D with nx := N, ct := N, bk := D.nx } σ2 H2) := by
  refine ⟨fun i m σ H => m = xs.length - i ∧ i ≤ xs.length ∧ Pv i σ H, ⟨xs.length, by simp, Nat.zero_le _, h0⟩, ?_⟩
  rintro i m σ H ⟨rfl, hi, p⟩
  have q := hl i σ H hi p
  by_cases hlt : i < xs.length
  · refine .inr ⟨⟨xs, xs[i], q, by simp [hlt]⟩, Pv (i + 1), fun σ' H' p' => ⟨xs.length - (i + 1), by omega, rfl, hlt, p'⟩, fun x H' y => ?_⟩
    obtain ⟨e, y⟩ := y
    subst e
    exact hs i x σ _ (y xs q) p
  · have e : i = xs.length := by omega
    subst e
    exact .inl ⟨⟨xs, q, Nat.le_refl _⟩, hd σ H p⟩
theorem zaU {K : PySem.W.Frag} {a : Addr} {xs : List V} {g : TG} {tb : TS} {D : Ends} {σ : St} {H : Hp} (Pv : Nat → St → Hp → Prop) (h0 : Pv 0 σ H) (hl : ∀ i σ H, i ≤ xs.length → Pv i σ H → SqT K H a xs)
    (hs : ∀ i x σ H, xs[i]? = some x → Pv i σ H → g x σ H fun σ2 H2 => tb { D with nx := Pv (i + 1), ct := Pv (i + 1), bk := D.nx } σ2 H2) (hd : ∀ σ H, Pv xs.length σ H → D.nx σ H) :
    ∃ W : Nat → Nat → St → Hp → Prop, (∃ m, W 0 m σ H) ∧ ∀ i m σ H, W i m σ H →
      ((Itt K a).stop i H ∧ D.nx σ H) ∨ ((Itt K a).go i H ∧ ∃ N : St → Hp → Prop, (∀ σ' H', N σ' H' → ∃ m', m' < m ∧ W (i + 1) m' σ' H') ∧ ∀ x H', (Itt K a).yld i H x H' → g x σ H' fun σ2 H2 => tb { D with nx := N, ct := N, bk := D.nx } σ2 H2) := by
  refine ⟨fun i m σ H => m = xs.length - i ∧ i ≤ xs.length ∧ Pv i σ H, ⟨xs.length, by simp, Nat.zero_le _, h0⟩, ?_⟩
  rintro i m σ H ⟨rfl, hi, p⟩
  have q := hl i σ H hi p
  by_cases hlt : i < xs.length
  · refine .inr ⟨⟨xs, xs[i], q, by simp [hlt]⟩, Pv (i + 1), fun σ' H' p' => ⟨xs.length - (i + 1), by omega, rfl, hlt, p'⟩, fun x H' y => ?_⟩
    obtain ⟨e, y⟩ := y
    subst e
    exact hs i x σ _ (y xs q) p
  · have e : i = xs.length := by omega
    subst e
    exact .inl ⟨⟨xs, q, Nat.le_refl _⟩, hd σ H p⟩
theorem QH {lo : Int} {n : Nat} {g : TG} {tb : TS} {D : Ends} {σ : St} {H : Hp} (Pv : Nat → St → Hp → Prop) (h0 : Pv 0 σ H)
    (hs : ∀ i σ H, i < n → Pv i σ H → g (.int (lo + i)) σ H fun σ2 H2 => tb { D with nx := Pv (i + 1), ct := Pv (i + 1), bk := D.nx } σ2 H2) (hd : ∀ σ H, Pv n σ H → D.nx σ H) :
    ∃ W : Nat → Nat → St → Hp → Prop, (∃ m, W 0 m σ H) ∧ ∀ i m σ H, W i m σ H →
      ((Itr lo n).stop i H ∧ D.nx σ H) ∨ ((Itr lo n).go i H ∧ ∃ N : St → Hp → Prop, (∀ σ' H', N σ' H' → ∃ m', m' < m ∧ W (i + 1) m' σ' H') ∧ ∀ x H', (Itr lo n).yld i H x H' → g x σ H' fun σ2 H2 => tb { D with nx := N, ct := N, bk := D.nx } σ2 H2) := by
  refine ⟨fun i m σ H => m = n - i ∧ i ≤ n ∧ Pv i σ H, ⟨n, by simp, Nat.zero_le _, h0⟩, ?_⟩
  rintro i m σ H ⟨rfl, hi, p⟩
  by_cases hlt : i < n
  · refine .inr ⟨hlt, Pv (i + 1), fun σ' H' p' => ⟨n - (i + 1), by omega, rfl, hlt, p'⟩, fun x H' y => ?_⟩
    obtain ⟨e, y⟩ := y
    subst e y
    exact hs i σ _ hlt p
  · have e : i = n := by omega
    subst e
    exact .inl ⟨Nat.le_refl _, hd σ H p⟩
end L2
namespace L2
open PySem PySem.Spec PyProof.Rows
noncomputable abbrev R2 := V → V → Hp → VK → Prop
noncomputable def OpR (X : Cx) (f : Value → Value → Sem Value) (r : R2) : Prop :=
  ∀ (pins : List (Addr × Obj)) (s : Shared) (σ : St) (H : Hp) (x y : V) (v u : Value) (Q : VK), Inv X pins σ H s → RelV x v → RelV y u → r x y H Q →
    wpAny (model X.prog X.w) X.A (f v u) (EP X pins σ Q) X.xe s
noncomputable def UnR (X : Cx) (f : Value → Sem Value) (r : V → Hp → VK → Prop) : Prop :=
  ∀ (pins : List (Addr × Obj)) (s : Shared) (σ : St) (H : Hp) (x : V) (v : Value) (Q : VK), Inv X pins σ H s → RelV x v → r x H Q →
    wpAny (model X.prog X.w) X.A (f v) (EP X pins σ Q) X.xe s
noncomputable def y9 (X : Cx) (f : Value) (r : List V → Hp → VK → Prop) : Prop :=
  ∀ (pins : List (Addr × Obj)) (s : Shared) (σ : St) (H : Hp) (xs : List V) (us : List Value) (Q : VK), Inv X pins σ H s → Vals xs us → r xs H Q →
    wpAny (model X.prog X.w) X.A (call f us) (EP X pins σ Q) X.xe s
noncomputable def zec (X : Cx) (r : V → Hp → (Bool → Hp → Prop) → Prop) : Prop :=
  ∀ (pins : List (Addr × Obj)) (s : Shared) (σ : St) (H : Hp) (x : V) (v : Value) (Q : Bool → Hp → Prop), Inv X pins σ H s → RelV x v → r x H Q →
    wpAny (model X.prog X.w) X.A (truthy v) (TP X pins σ Q) X.xe s
noncomputable def tOp (r : R2) (ta tb : TE) : TE := fun σ H Q => ta σ H fun x H1 => tb σ H1 fun y H2 => r x y H2 Q
noncomputable def tUn (r : V → Hp → VK → Prop) (ta : TE) : TE := fun σ H Q => ta σ H fun x H1 => r x H1 Q
noncomputable def rI (C : Int → Int → Prop) (g : Int → Int → V) : R2 := fun x y H Q => ∃ i j, x = .int i ∧ y = .int j ∧ C i j ∧ Q (g i j) H
noncomputable def rI0 (g : Int → Int → V) : R2 := fun x y H Q => ∃ i j, x = .int i ∧ y = .int j ∧ Q (g i j) H
noncomputable def rU (g : Int → V) : V → Hp → VK → Prop := fun x H Q => ∃ i, x = .int i ∧ Q (g i) H
section
variable {X : Cx} {a b c : Expr} {ta tb tc : TE} {pos : Pos}
theorem JM (ha : PE X a ta) (hb : PE X b tb) {pins : List (Addr × Obj)} {s : Shared} {σ : St} {H : Hp} {R : V → V → Hp → Prop} (I : Inv X pins σ H s)
    (h : ta σ H fun x H1 => tb σ H1 fun y H2 => R x y H2) {Q : Value → Shared → Prop} {f : Value → Value → Sem Value}
    (hf : ∀ v u s2 x y H2, Inv X pins σ H2 s2 → RelV x v → RelV y u → R x y H2 → wpAny (model X.prog X.w) X.A (f v u) Q X.xe s2) :
    wpAny (model X.prog X.w) X.A (eval a X.env) (fun v s₁ => wpAny (model X.prog X.w) X.A (eval b X.env) (fun u s₂ => wpAny (model X.prog X.w) X.A (f v u) Q X.xe s₂) X.xe s₁) X.xe s := by
  refine thn (ha pins s σ H _ I h) fun v s1 ⟨x, H1, I1, r1, q1⟩ => ?_
  refine thn (hb pins s1 σ H1 _ I1 q1) fun u s2 ⟨y, H2, I2, r2, q2⟩ => ?_
  exact hf v u s2 x y H2 I2 r1 r2 q2
theorem zi {op : Operator} {r : R2} (ho : OpR X (binaryOp op) r) (ha : PE X a ta) (hb : PE X b tb) : PE X (.BinOp a op b pos) (tOp r ta tb) := by
  intro pins s σ H Q I h
  exact wpAny_BinOp (JM ha hb I h fun v u s2 x y H2 I2 rx ry q => ho pins s2 σ H2 x y v u Q I2 rx ry q)
theorem Ul {op : UnaryOp} {r : V → Hp → VK → Prop} (ho : UnR X (unaryOp op) r) (ha : PE X a ta) : PE X (.UnaryOp op a pos) (tUn r ta) := by
  intro pins s σ H Q I h
  exact UnaryOp_ (thn (ha pins s σ H _ I h) fun v s1 ⟨x, H1, I1, r1, q1⟩ => ho pins s1 σ H1 x v Q I1 r1 q1)
theorem opI {f : Value → Value → Sem Value} {C : Int → Int → Prop} {g : Int → Int → Int}
    (rule : ∀ (i j : Int) (t u : Tok) (s : Shared) (Q : Value → Shared → Prop) (E : Value → Shared → Prop), C i j → Q (.int (g i j) s.toks) { s with toks := s.toks + 1 } → wpAny (model X.prog X.w) X.A (f (.int i t) (.int j u)) Q E s) :
    OpR X f (rI C fun i j => .int (g i j)) := by
  intro pins s σ H x y v u Q I rx ry h
  obtain ⟨i, j, rfl, rfl, hc, q⟩ := h
  obtain ⟨t, rfl⟩ := rx
  obtain ⟨t', rfl⟩ := ry
  exact rule i j t t' s _ _ hc ⟨.int (g i j), H, I.tok _, ⟨_, rfl⟩, q⟩
theorem Y8 {f : Value → Value → Sem Value} {g : Int → Int → Int}
    (rule : ∀ (i j : Int) (t u : Tok) (s : Shared) (Q : Value → Shared → Prop) (E : Value → Shared → Prop), Q (.int (g i j) s.toks) { s with toks := s.toks + 1 } → wpAny (model X.prog X.w) X.A (f (.int i t) (.int j u)) Q E s) :
    OpR X f (rI0 fun i j => .int (g i j)) := by
  intro pins s σ H x y v u Q I rx ry h
  obtain ⟨i, j, rfl, rfl, q⟩ := h
  obtain ⟨t, rfl⟩ := rx
  obtain ⟨t', rfl⟩ := ry
  exact rule i j t t' s _ _ ⟨.int (g i j), H, I.tok _, ⟨_, rfl⟩, q⟩
theorem Um {f : Value → Value → Sem Value} {g : Int → Int → Bool}
    (rule : ∀ (i j : Int) (t u : Tok) (s : Shared) (Q : Value → Shared → Prop) (E : Value → Shared → Prop), Q (.bool (g i j)) s → wpAny (model X.prog X.w) X.A (f (.int i t) (.int j u)) Q E s) :
    OpR X f (rI0 fun i j => .bl (g i j)) := by
  intro pins s σ H x y v u Q I rx ry h
  obtain ⟨i, j, rfl, rfl, q⟩ := h
  obtain ⟨t, rfl⟩ := rx
  obtain ⟨t', rfl⟩ := ry
  exact rule i j t t' s _ _ ⟨.bl (g i j), H, I, rfl, q⟩
noncomputable def xK (i j : Int) : Prop := 0 < j ∧ j < 1073741824
noncomputable def ZS (i j : Int) : Prop := (-(2 ^ 64) < i ∧ i < 2 ^ 64) ∨ (-(2 ^ 64) < j ∧ j < 2 ^ 64)
theorem ZS.ok {i j : Int} (h : ZS i j) : IntMulOk i j := by
  rcases h with ⟨h1, h2⟩ | ⟨h1, h2⟩
  · exact .of_left (intBits_le_64 h1 h2)
  · exact .of_right (intBits_le_64 h1 h2)
theorem Uo (k : Nat) : (0 : Int) ≤ 2 ^ k := by
  rw [two_pow_cast]
  exact Int.natCast_nonneg _
theorem yK : OpR X (binaryOp .Add) (rI0 fun i j => .int (i + j)) := Y8 fun _ _ _ _ _ _ _ q => add_int q
theorem yX : OpR X (binaryOp .Sub) (rI0 fun i j => .int (i - j)) := Y8 fun _ _ _ _ _ _ _ q => sub_int q
theorem yL : OpR X (binaryOp .FloorDiv) (rI xK fun i j => .int (i / j)) := opI fun i j _ _ _ _ _ hc q => by
  have h1 : (0 : Int) < j := hc.1
  have h2 : j < 1073741824 := hc.2
  exact floordiv_int (by omega) (by rw [Int.fdiv_eq_ediv_of_nonneg i (by omega)]; exact q) (.inl (PyProof.noPylong_small (by omega)))
theorem yJ : OpR X (binaryOp .Mod) (rI (fun _ j => 0 < j) fun i j => .int (i % j)) := opI fun i j _ _ _ _ _ hc q => by
  have h1 : (0 : Int) < j := hc
  exact mod_int' (by omega) (by rw [Int.fmod_eq_emod_of_nonneg i (by omega)]; exact q)
theorem QI : OpR X (binaryOp .RShift) (rI (fun _ j => 0 ≤ j) fun i j => .int (i / 2 ^ j.toNat)) := opI fun i j _ _ _ _ _ hc q =>
  rshift_int hc (by rw [Int.fdiv_eq_ediv_of_nonneg i (Uo _)]; exact q)
theorem k6 : OpR X (binaryOp .BitAnd) (rI0 fun i j => .int (Builtin.bitAnd i j)) := Y8 fun _ _ _ _ _ _ _ q => and_int q
theorem zdy : OpR X (binaryOp .BitOr) (rI0 fun i j => .int (Builtin.bitOr i j)) := Y8 fun _ _ _ _ _ _ _ q => or_int q
theorem zcd : OpR X (binaryOp .BitXor) (rI0 fun i j => .int (Builtin.bitXor i j)) := Y8 fun _ _ _ _ _ _ _ q => xor_int q
theorem unI {f : Value → Sem Value} {g : Int → Int}
    (rule : ∀ (i : Int) (t : Tok) (s : Shared) (Q : Value → Shared → Prop) (E : Value → Shared → Prop), Q (.int (g i) s.toks) { s with toks := s.toks + 1 } → wpAny (model X.prog X.w) X.A (f (.int i t)) Q E s) :
    UnR X f (rU fun i => .int (g i)) := by
  intro pins s σ H x v Q I rx h
  obtain ⟨i, rfl, q⟩ := h
  obtain ⟨t, rfl⟩ := rx
  exact rule i t s _ _ ⟨.int (g i), H, I.tok _, ⟨_, rfl⟩, q⟩
theorem QJ : UnR X (unaryOp .USub) (rU fun i => .int (-i)) := unI fun _ _ _ _ _ q => neg_int q
theorem zce : UnR X (unaryOp .Invert) (rU fun i => .int (Builtin.bitNot i)) := unI fun _ _ _ _ _ q => invert_int q
end
noncomputable def Y9 : V → V → Bool
  | .non, .non => true | .non, .int _ => true | .int _, .non => true | .non, .bl _ => true | .bl _, .non => true | .non, .str _ => true | .str _, .non => true
  | .int _, .int _ => true | .bl _, .bl _ => true | .str _, .str _ => true | .byt _, .byt _ => true
  | .int _, .str _ => true | .str _, .int _ => true | .bl _, .str _ => true | .str _, .bl _ => true
  | _, _ => false
noncomputable def rEq : R2 := fun x y H Q => Y9 x y = true ∧ Q (.bl (decide (x = y))) H
theorem zaV {i j : Int} : decide (V.int i = V.int j) = (i == j) := by
  rw [Bool.eq_iff_iff]
  simp
theorem zcf {i j : Bool} : decide (V.bl i = V.bl j) = (i == j) := by
  rw [Bool.eq_iff_iff]
  simp
theorem zaW {i j : Str} : decide (V.str i = V.str j) = (i == j) := by
  rw [Bool.eq_iff_iff]
  simp
theorem zaX {i j : Array UInt8} : decide (V.byt i = V.byt j) = (i.toList == j.toList) := by
  rw [Bool.eq_iff_iff]
  cases i
  cases j
  simp
section
variable {X : Cx} {a b c : Expr} {ta tb tc : TE} {pos : Pos}
theorem xi {pins : List (Addr × Obj)} {σ : St} {H : Hp} {s : Shared} {Q : VK} {k k' : Bool} (I : Inv X pins σ H s) (q : Q (.bl k) H) (e : k = k') : EP X pins σ Q (.bool k') s := by
  subst e
  exact ⟨.bl k, H, I, rfl, q⟩
theorem xB : OpR X (compareOp .Eq) rEq := by
  intro pins s σ H x y v u Q I rx ry h
  obtain ⟨hs, q⟩ := h
  cases x with
  | non =>
    cases rx
    cases y with
    | non => cases ry; exact PySem.EqNone.eq_none_none (xi I q (by simp))
    | bl j => cases ry; exact PySem.EqNone.eq_none_bool (xi I q (by simp))
    | int j => obtain ⟨t', rfl⟩ := ry; exact PySem.EqNone.eq_none_int (xi I q (by simp))
    | str j => obtain ⟨t', rfl⟩ := ry; exact PySem.EqNone.eq_none_str (xi I q (by simp))
    | _ => exact absurd (show false = true from hs) Bool.false_ne_true
  | bl i =>
    cases rx
    cases y with
    | non => cases ry; exact PySem.EqNone.eq_bool_none (xi I q (by simp))
    | bl j => cases ry; exact eq_bool (xi I q zcf)
    | str j => obtain ⟨t', rfl⟩ := ry; exact PySem.EqMixed.eq_bool_str (xi I q (by simp))
    | _ => exact absurd (show false = true from hs) Bool.false_ne_true
  | int i =>
    obtain ⟨t, rfl⟩ := rx
    cases y with
    | non => cases ry; exact PySem.EqNone.eq_int_none (xi I q (by simp))
    | int j => obtain ⟨t', rfl⟩ := ry; exact eq_int (xi I q zaV)
    | str j => obtain ⟨t', rfl⟩ := ry; exact PySem.EqMixed.eq_int_str (xi I q (by simp))
    | _ => exact absurd (show false = true from hs) Bool.false_ne_true
  | str i =>
    obtain ⟨t, rfl⟩ := rx
    cases y with
    | non => cases ry; exact PySem.EqNone.eq_str_none (xi I q (by simp))
    | bl j => cases ry; exact PySem.EqMixed.eq_str_bool (xi I q (by simp))
    | int j => obtain ⟨t', rfl⟩ := ry; exact PySem.EqMixed.eq_str_int (xi I q (by simp))
    | str j => obtain ⟨t', rfl⟩ := ry; exact eq_str (xi I q zaW)
    | _ => exact absurd (show false = true from hs) Bool.false_ne_true
  | byt i =>
    obtain ⟨t, rfl⟩ := rx
    cases y with
    | byt j => obtain ⟨t', rfl⟩ := ry; exact PySem.W.eq_bytes (xi I q zaX)
    | _ => exact absurd (show false = true from hs) Bool.false_ne_true
  | _ => cases y <;> exact absurd (show false = true from hs) Bool.false_ne_true
theorem k7 : OpR X (compareOp .Lt) (rI0 fun i j => .bl (decide (i < j))) := Um fun _ _ _ _ _ _ _ q => lt_int q
theorem xw : OpR X (compareOp .LtE) (rI0 fun i j => .bl (decide (i ≤ j))) := Um fun _ _ _ _ _ _ _ q => le_int q
theorem k8 : OpR X (compareOp .Gt) (rI0 fun i j => .bl (decide (j < i))) := Um fun _ _ _ _ _ _ _ q => gt_int q
theorem Uq : OpR X (compareOp .GtE) (rI0 fun i j => .bl (decide (j ≤ i))) := Um fun _ _ _ _ _ _ _ q => ge_int q
theorem jn : OpR X (compareOp .Is) (fun x y H Q => y = .non ∧ Q (.bl (decide (x = .non))) H) := by
  intro pins s σ H x y v u Q I rx ry h
  obtain ⟨rfl, q⟩ := h
  cases ry
  refine is_none_gen (xi I q ?_)
  cases x <;> first
    | (cases rx; rfl)
    | (obtain ⟨t, rfl⟩ := rx; rfl)
theorem vL : OpR X (compareOp .IsNot) (fun x y H Q => y = .non ∧ Q (.bl (!decide (x = .non))) H) := by
  intro pins s σ H x y v u Q I rx ry h
  obtain ⟨rfl, q⟩ := h
  cases ry
  refine isnot_none_gen (xi I q ?_)
  cases x <;> first
    | (cases rx; rfl)
    | (obtain ⟨t, rfl⟩ := rx; rfl)
theorem OpR.or {f : Value → Value → Sem Value} {r r' : R2} (h : OpR X f r) (h' : OpR X f r') : OpR X f (fun x y H Q => r x y H Q ∨ r' x y H Q) := by
  intro pins s σ H x y v u Q I rx ry q
  rcases q with q | q
  · exact h pins s σ H x y v u Q I rx ry q
  · exact h' pins s σ H x y v u Q I rx ry q
theorem zN (b : Expr) {op : CmpOp} (h : op ≠ .In := by decide) (h2 : op ≠ .NotIn := by decide) : behindInMarks op b = false := by
  have e1 : (op == CmpOp.In) = false := by cases op <;> first | rfl | exact absurd rfl h
  have e2 : (op == CmpOp.NotIn) = false := by cases op <;> first | rfl | exact absurd rfl h2
  cases b <;> simp [behindInMarks, e1, e2]
theorem xu {op : CmpOp} {r : R2} (ho : OpR X (compareOp op) r) (ha : PE X a ta) (hb : PE X b tb) (hm : behindInMarks op b = false) : PE X (.Compare a [op] [b] pos) (tOp r ta tb) := by
  intro pins s σ H Q I h
  exact wpAny_Compare1 (JM ha hb I h fun v u s2 x y H2 I2 rx ry q => ho pins s2 σ H2 x y v u Q I2 rx ry q) hm
noncomputable def YN (t : TE) : TT := fun σ H Q => t σ H fun x H' => ∃ k, x = .bl k ∧ Q k H'
theorem ym {op : CmpOp} {r : R2} (ho : OpR X (compareOp op) r) (ha : PE X a ta) (hb : PE X b tb) (hm : behindInMarks op b = false) : PT X (.Compare a [op] [b] pos) (YN (tOp r ta tb)) := by
  intro pins s σ H Q I h
  refine wpAny_isTrue_Compare1 (thn (ha pins s σ H _ I h) fun v s1 ⟨x, H1, I1, r1, q1⟩ => thn (hb pins s1 σ H1 _ I1 q1) fun u s2 ⟨y, H2, I2, r2, q2⟩ =>
    thn (ho pins s2 σ H2 x y v u _ I2 r1 r2 q2) fun c s3 ⟨z, H3, I3, r3, k, e, q3⟩ => ?_) hm
  subst e
  cases r3
  exact wpAny_truthy_bool ⟨H3, I3, q3⟩
noncomputable def Xa (r r' : R2) (ta tb tc : TE) : TE := fun σ H Q => ta σ H fun x H1 => tb σ H1 fun y H2 => r x y H2 fun z H3 => ∃ k, z = .bl k ∧
  (if k = true then tc σ H3 fun w' H4 => r' y w' H4 Q else Q (.bl false) H3)
theorem kz {op op' : CmpOp} {r r' : R2} (ho : OpR X (compareOp op) r) (ho' : OpR X (compareOp op') r') (ha : PE X a ta) (hb : PE X b tb) (hc : PE X c tc)
    (hm : lastMarks [op, op'] [b, c] = false := by with_unfolding_all rfl) : PE X (.Compare a [op, op'] [b, c] pos) (Xa r r' ta tb tc) := by
  intro pins s σ H Q I h
  refine Compare_chain (thn (ha pins s σ H _ I h) fun v s1 ⟨x, H1, I1, r1, q1⟩ => chain_link (thn (hb pins s1 σ H1 _ I1 q1) fun u s2 ⟨y, H2, I2, r2, q2⟩ =>
    thn (ho pins s2 σ H2 x y v u _ I2 r1 r2 q2) fun d s3 ⟨z, H3, I3, r3, k, e, q3⟩ => ?_)) hm
  subst e
  cases r3
  refine wpAny_truthy_bool ?_
  cases k with
  | false => exact ite_ff ⟨.bl false, H3, I3, rfl, q3⟩
  | true => exact ite_tt (chain_last (thn (hc pins s3 σ H3 _ I3 q3) fun w' s4 ⟨z', H4, I4, r4, q4⟩ => ho' pins s4 σ H4 y z' u w' Q I4 r2 r4 q4))
theorem vM {op op' : CmpOp} {r r' : R2} (ho : OpR X (compareOp op) r) (ho' : OpR X (compareOp op') r') (ha : PE X a ta) (hb : PE X b tb) (hc : PE X c tc)
    (hm : lastMarks [op, op'] [b, c] = false := by with_unfolding_all rfl) : PT X (.Compare a [op, op'] [b, c] pos) (YN (Xa r r' ta tb tc)) := by
  intro pins s σ H Q I h
  refine isTrue_chain (thn (ha pins s σ H _ I h) fun v s1 ⟨x, H1, I1, r1, q1⟩ => test_link (thn (hb pins s1 σ H1 _ I1 q1) fun u s2 ⟨y, H2, I2, r2, q2⟩ =>
    thn (ho pins s2 σ H2 x y v u _ I2 r1 r2 q2) fun d s3 ⟨z, H3, I3, r3, k, e, q3⟩ => ?_)) hm
  subst e
  cases r3
  refine wpAny_truthy_bool ?_
  cases k with
  | false =>
    obtain ⟨k', e', q'⟩ := q3
    cases e'
    exact ite_ff ⟨H3, I3, q'⟩
  | true =>
    refine ite_tt (test_last (thn (hc pins s3 σ H3 _ I3 q3) fun w' s4 ⟨z', H4, I4, r4, q4⟩ => thn (ho' pins s4 σ H4 y z' u w' _ I4 r2 r4 q4) fun d' s5 ⟨z2, H5, I5, r5, k2, e2, q5⟩ => ?_))
    subst e2
    cases r5
    exact wpAny_truthy_bool ⟨H5, I5, q5⟩
noncomputable def Xb (K : PySem.W.Frag) (x : V) (H : Hp) (k : Bool) : Prop :=
  match x with
  | .non => k = false
  | .bl b => k = b
  | .int i => k = (i != 0)
  | .str y => y.length ≤ sizeLine ∧ k = ((y.length : Int) != 0)
  | .byt y => y.size ≤ sizeLine ∧ k = ((y.size : Int) != 0)
  | .ref p => (∃ xs, SqL K H p xs ∧ k = !xs.isEmpty) ∨ (∃ xs, SqT K H p xs ∧ k = !xs.isEmpty) ∨ ∃ kvs, H p = some (.dK kvs) ∧ k = !kvs.isEmpty
  | _ => False
theorem Ur {κ : Type} {kvs : List (κ × V)} {vs : List (κ × Value)} (r : KV kvs vs) : (!vs.isEmpty) = !kvs.isEmpty := by
  cases r <;> rfl
theorem k9 {xs : List V} {its : List Value} (r : Vals xs its) : (!its.toArray.isEmpty) = !xs.isEmpty := by
  cases r <;> simp
theorem uz : (sizeLine : Nat) < 2 ^ 63 := by rw [sizeLine_eq]; decide
theorem zcg : zec X (fun x H Q => ∃ k, Xb X.K x H k ∧ Q k H) := by
  intro pins s σ H x v Q I rx h
  obtain ⟨k, e, q⟩ := h
  have hl := uz
  have hs : sizeLine = 16777216 := sizeLine_eq
  cases x with
  | non =>
    cases rx
    have e' : k = false := e
    subst e'
    exact truthy_none ⟨H, I, q⟩
  | bl b =>
    cases rx
    have e' : k = b := e
    subst e'
    exact wpAny_truthy_bool ⟨H, I, q⟩
  | int i =>
    obtain ⟨t, rfl⟩ := rx
    have e' : k = (i != 0) := e
    subst e'
    exact PySem.P.truthy_int ⟨H, I, q⟩
  | str y =>
    obtain ⟨t, rfl⟩ := rx
    obtain ⟨hy, e'⟩ : y.length ≤ sizeLine ∧ k = ((y.length : Int) != 0) := e
    subst e'
    exact PySem.P.truthy_str (by omega) ⟨H, I.tok _, q⟩
  | byt y =>
    obtain ⟨t, rfl⟩ := rx
    obtain ⟨hy, e'⟩ : y.size ≤ sizeLine ∧ k = ((y.size : Int) != 0) := e
    subst e'
    exact PySem.W.truthy_bytes (by omega) ⟨H, I.tok _, q⟩
  | ref p =>
    cases rx
    have e' : (∃ xs, SqL X.K H p xs ∧ k = !xs.isEmpty) ∨ (∃ xs, SqT X.K H p xs ∧ k = !xs.isEmpty) ∨ ∃ kvs, H p = some (.dK kvs) ∧ k = !kvs.isEmpty := e
    rcases e' with ⟨xs, hx, e'⟩ | ⟨xs, hx, e'⟩ | ⟨kvs, hx, e'⟩
    · subst e'
      obtain ⟨its, r, pl, hz⟩ := I.list hx
      have hlen := r.length
      exact wpAny_truthy_list pl.isList (by simp only [List.size_toArray]; omega) ⟨H, I.tok _, by rw [k9 r]; exact q⟩
    · subst e'
      obtain ⟨its, r, pl, hz⟩ := I.tuple hx
      have hlen := r.length
      exact truthy_tuple pl (by simp only [List.size_toArray]; omega) ⟨H, I.tok _, by rw [k9 r]; exact q⟩
    · subst e'
      obtain ⟨hz, hS, vs, r, m⟩ : kvs.length ≤ sizeLine ∧ (p == sysModules) = false ∧ ∃ vs, KV kvs vs ∧ s.heap.DictOf (yV X.prog X.w) p vs := I.hok p _ hx
      have hlen : kvs.length = vs.length := Paired.length r
      exact wpAny_truthy_dict hS m (by omega) ⟨H, I.tok _, by rw [Ur r]; exact q⟩
  | _ => exact (show False from e).elim
theorem JN (ha : PE X a ta) (he : ∀ whole, isTrue a X.env whole = (do let v ← whole; standAt a.pos; holding [v] (truthy v))) :
    PT X a (fun σ H Q => ta σ H fun x H' => ∃ k, Xb X.K x H' k ∧ Q k H') := by
  intro pins s σ H Q I h
  exact isTrue_plain (thn (ha pins s σ H _ I h) fun v s1 ⟨x, H1, I1, r1, q1⟩ => zcg pins s1 σ H1 x v Q I1 r1 q1) (he _)
theorem Us : OpR X (binaryOp .Add) (fun x y H Q => ∃ i j, x = .str i ∧ y = .str j ∧ i.length + j.length ≤ sizeLine ∧ Q (.str (i ++ j)) H) := by
  intro pins s σ H x y v u Q I rx ry h
  obtain ⟨i, j, rfl, rfl, hz, q⟩ := h
  obtain ⟨t, rfl⟩ := rx
  obtain ⟨t', rfl⟩ := ry
  exact add_str (fun t' tk => ⟨.str (i ++ j), H, I.tok _, ⟨_, rfl⟩, q⟩) hz
theorem jY {x : V} {us : List Value} (r : Vals [x] us) : ∃ u, us = [u] ∧ RelV x u := by
  cases r with
  | cons r1 r2 => cases r2; exact ⟨_, rfl, r1⟩
theorem zab {x y : V} {us : List Value} (r : Vals [x, y] us) : ∃ u w', us = [u, w'] ∧ RelV x u ∧ RelV y w' := by
  cases r with
  | cons r1 r2 =>
    cases r2 with
    | cons r3 r4 => cases r4; exact ⟨_, _, rfl, r1, r3⟩
theorem jo (hc : X.calm = true) : y9 X (.builtin "max") (fun xs H Q => ∃ i j, xs = [.int i, .int j] ∧ Q (.int (if j > i then j else i)) H) := by
  intro pins s σ H xs us Q I r h
  obtain ⟨i, j, rfl, q⟩ := h
  obtain ⟨u, w', rfl, ⟨t, rfl⟩, ⟨t', rfl⟩⟩ := zab r
  refine max_two_ints (I.ok.hd hc) fun h' tk k => ⟨_, H, I.kept k, ?_, q⟩
  by_cases hj : j > i
  · rw [if_pos hj, if_pos hj]; exact ⟨_, rfl⟩
  · rw [if_neg hj, if_neg hj]; exact ⟨_, rfl⟩
theorem vd (hc : X.calm = true) : y9 X (.builtin "min") (fun xs H Q => ∃ i j, xs = [.int i, .int j] ∧ Q (.int (if j < i then j else i)) H) := by
  intro pins s σ H xs us Q I r h
  obtain ⟨i, j, rfl, q⟩ := h
  obtain ⟨u, w', rfl, ⟨t, rfl⟩, ⟨t', rfl⟩⟩ := zab r
  refine min_two_ints (I.ok.hd hc) fun h' tk k => ⟨_, H, I.kept k, ?_, q⟩
  by_cases hj : j < i
  · rw [if_pos hj, if_pos hj]; exact ⟨_, rfl⟩
  · rw [if_neg hj, if_neg hj]; exact ⟨_, rfl⟩
theorem QK : y9 X (.type "int") (fun xs H Q => (∃ i, xs = [.int i] ∧ Q (.int i) H) ∨ ∃ k, xs = [.bl k] ∧ Q (.int (if k then 1 else 0)) H) := by
  intro pins s σ H xs us Q I r h
  rcases h with ⟨i, rfl, q⟩ | ⟨k, rfl, q⟩
  · obtain ⟨u, rfl, t, rfl⟩ := jY r
    exact call_int_int ⟨.int i, H, I, ⟨_, rfl⟩, q⟩
  · obtain ⟨u, rfl, r1⟩ := jY r
    cases r1
    exact call_int_bool ⟨.int (if k then 1 else 0), H, I.tok _, ⟨_, rfl⟩, q⟩
end
end L2
namespace L2
open PySem PySem.Spec PyProof.Rows
structure ObjM (h : Heap) (x dx C : Addr) (mA : Str → Option Value) : Prop where
  obj : h.get? x = some (PySem.W.instObj C dx)
  ns : h.Ns1 dx mA
  ne : dx ≠ x
theorem QL {h : Heap} {dx : Addr} {mA : Str → Option Value} (n : h.Ns1 dx mA) : ∃ od, h.get? dx = some od ∧ ∀ name, PySem.W.lookIn name od = some (mA name) := by
  obtain ⟨o, es, ep, ho, hd, hk, _, hm⟩ := n
  refine ⟨o, ho, fun name => ?_⟩
  have e := hm name
  unfold nsFind findBy at e
  rw [← Array.find?_toList] at e
  unfold PySem.W.lookIn
  rw [hd]
  dsimp only
  split
  · rename_i y q
    rw [q] at e
    exact congrArg some e
  · rename_i q
    rw [q] at e
    have a : es.toList.any (·.refKey) = false := by
      rw [List.any_eq_false]
      intro y hy
      obtain ⟨z, t, hkey⟩ := hk y (Array.mem_toList_iff.mp hy)
      simp [DictEntry.refKey, hkey]
    have a' : ¬ es.toList.any (·.refKey) = true := by rw [a]; exact Bool.false_ne_true
    rw [if_neg a']
    exact congrArg some e
theorem ObjM.look {h : Heap} {x dx C : Addr} {mA : Str → Option Value} (I : ObjM h x dx C mA) : ∃ od, PySem.W.InstAt h x (PySem.W.instObj C dx) C (some od) ∧ ∀ name, PySem.W.lookIn name od = some (mA name) :=
  let ⟨od, ho, hl⟩ := QL I.ns
  ⟨od, ⟨I.obj, rfl, rfl, ho⟩, hl⟩
section
variable {prog : Program} {w : World} {A : Around} {E : Value → Shared → Prop} {s : Shared} {K : PySem.W.Frag} {x dx C f : Addr} {mA : Str → Option Value} {name : Str} {v : Value}
theorem zaY {expr : Bool} {Q : Value → Shared → Prop} (X : K.In s.heap) (I : ObjM s.heap x dx C mA) (hg : PySem.W.plainGet K C name = true) (hh : PySem.W.hasDictIn K C = true)
    (ha : PySem.W.findIn K (.ref C) name = some none) (hv : mA name = some v) (hv' : PySem.W.handedIn v = true) (h : Q v { s with toks := s.toks + 1 }) :
    wpAny (model prog w) A (getAttr (.ref x) name expr) Q E s := by
  obtain ⟨od, J, hl⟩ := I.look
  exact PySem.W.get_value X J (PySem.W.plainGet_of hg).1 (PySem.W.findObj_own hh ha rfl (by rw [hl, hv])) hv' h
theorem JO {pl : Sem Bool} {Q : Value × List Value → Shared → Prop} (X : K.In s.heap) (I : ObjM s.heap x dx C mA) (hg : PySem.W.plainGet K C name = true)
    (hf : PySem.W.findIn K (.ref C) name = some (some (.ref f))) (ht : PySem.W.isFn K (.ref f) = true) (hv : mA name = none) (h : Q (.ref f, [.ref x]) s) :
    wpAny (model prog w) A (getMethod (.ref x) name pl) Q E s := by
  obtain ⟨od, J, hl⟩ := I.look
  exact PySem.W.method_fn X J (PySem.W.plainGet_of hg).1 (PySem.W.plainGet_of hg).2 hf (beq_iff_eq.mp ht) (by show (PySem.W.lookIn name od).map (·.isSome) = some false; rw [hl, hv]; rfl) h
theorem zaZ {ns : List Str} {Q : Unit → Shared → Prop} (X : K.In s.heap) (I : ObjM s.heap x dx C mA)
    (hs : PySem.W.findIn K (.ref C) "__setattr__" = some (some (.builtin "object.__setattr__"))) (hp : PySem.W.plainOver K C = true) (ht : PySem.W.takerIn K C name = some none) (hh : PySem.W.hasDictIn K C = true)
    (hw : PySem.Within mA ns) (hsz : ns.length ≤ sizeLine)
    (h : ∀ h', ObjM h' x dx C (fun y => if y = name then some v else mA y) → Heap.SameBut dx s.heap h' → Q () { s with heap := h', toks := s.toks + 2 }) :
    wpAny (model prog w) A (setAttr (.ref x) name v) Q E s := by
  obtain ⟨od, J, hl⟩ := I.look
  refine PySem.W.set_plain X J hs (PySem.W.osa_open (s := { s with toks := s.toks + 1 }) (r := none) X J hp ht fun b => ?_)
  obtain ⟨cd, hc, hd'⟩ := PySem.W.any_some hh
  have hx : s.heap.get? x = some ⟨.ref C, some dx, .plain, #[]⟩ := I.obj
  refine wpAny_bind (wpAny_pure (wpAny_bind (wpAny_bind (wpAny_loadPart hx (wpAny_bind (PySem.W.Looks.here (s := { s with toks := s.toks + 1 }) (PySem.W.looks_clsIn X hc) ?_))))))
  rw [hd']
  refine wpAny_pure (a := some dx) (wpAny_bind (wpAny_pure (wpAny_bind ?_)))
  refine wpAny_nsSet1 (s := { s with toks := s.toks + 1 }) I.ns fun h' hn2 hs2 => ?_
  obtain ⟨oD, esD, epD, hoD, hdD, hcD⟩ := hn2.count (PySem.Within.cons name v hw)
  refine wpAny_bind (wpAny_lookBehind hoD (by rw [hdD]; exact pastItsLine_dict (Nat.le_trans hcD (by rw [List.length_cons]; omega))) ?_)
  exact wpAny_pure (h _ ⟨(hs2.2 _ (Ne.symm I.ne)).trans I.obj, hn2, I.ne⟩ hs2)
theorem JP {R : Result → Shared → Prop} {vs : List Value} {kw : List (Str × Value)} (X : K.In s.heap) (hm : PySem.W.makesIn K C = true)
    (hi : PySem.W.findIn K (.ref C) "__init__" = some (some (.ref f))) (hf : PySem.W.typeIn K (.ref f) = some (.type "function"))
    (h : codeAny (model prog w) (A.under (.builtin "type.__call__" ⟨.ref C :: vs, kw⟩)) (.call (.ref f) ⟨.ref (s.heap.objs.size + 1) :: vs, kw⟩) (PySem.W.InitBack (s.heap.objs.size + 1) R)
      { s with heap := (s.heap.push PySem.W.emptyDict).push (PySem.W.instObj C s.heap.objs.size) }) :
    codeAny (model prog w) A (.call (.ref C) ⟨vs, kw⟩) R s := by
  obtain ⟨hh, g, d, t, os⟩ := s
  exact PySem.W.make_core (PySem.W.makes_of X hm) (PySem.W.looks_findIn X hi) (fun self => PySem.W.bind_fn X self hf) (.inl rfl) h
end
noncomputable def x5 (f : Str) (v : V) : List (Str × V) → List (Str × V)
  | [] => [(f, v)]
  | (g, x) :: r => if g = f then (g, v) :: r else (g, x) :: x5 f v r
theorem km (f g : Str) (v : V) : ∀ fs : List (Str × V), (x5 f v fs).lookup g = if g = f then some v else fs.lookup g
  | [] => by
    show List.lookup g [(f, v)] = _
    by_cases h : g = f
    · have hb : (g == f) = true := beq_iff_eq.mpr h
      simp only [List.lookup, hb, if_pos h]
    · have hb : (g == f) = false := beq_eq_false_iff_ne.mpr h
      simp only [List.lookup, hb, if_neg h]
  | (k, x) :: r => by
    have ih := km f g v r
    rw [show x5 f v ((k, x) :: r) = (if k = f then (k, v) :: r else (k, x) :: x5 f v r) from rfl]
    by_cases hk : k = f
    · rw [if_pos hk]
      by_cases h : g = k
      · have hb : (g == k) = true := beq_iff_eq.mpr h
        simp only [List.lookup, hb, if_pos (h.trans hk)]
      · have hb : (g == k) = false := beq_eq_false_iff_ne.mpr h
        simp only [List.lookup, hb, if_neg (fun e : g = f => h (e.trans hk.symm))]
    · rw [if_neg hk]
      by_cases h : g = k
      · have hb : (g == k) = true := beq_iff_eq.mpr h
        simp only [List.lookup, hb, if_neg (fun e : g = f => hk (h.symm.trans e))]
      · have hb : (g == k) = false := beq_eq_false_iff_ne.mpr h
        simp only [List.lookup, hb]
        exact ih
theorem jp (f : Str) (v : V) : ∀ fs : List (Str × V), f ∈ (x5 f v fs).map (·.1) ∧ ∀ g, g ∈ fs.map (·.1) → g ∈ (x5 f v fs).map (·.1)
  | [] => ⟨by simp [x5], fun g h => by simp at h⟩
  | (k, x) :: r => by
    obtain ⟨i1, i2⟩ := jp f v r
    rw [show x5 f v ((k, x) :: r) = (if k = f then (k, v) :: r else (k, x) :: x5 f v r) from rfl]
    by_cases hk : k = f
    · rw [if_pos hk]
      subst hk
      exact ⟨by simp, fun g h => by simpa using h⟩
    · rw [if_neg hk]
      refine ⟨?_, fun g h => ?_⟩
      · rw [List.map_cons]
        exact List.mem_cons_of_mem _ i1
      · rw [List.map_cons] at h ⊢
        rcases List.mem_cons.mp h with e | e
        · exact List.mem_cons.mpr (.inl e)
        · exact List.mem_cons_of_mem _ (i2 g e)
theorem kn (f : Str) (v : V) : ∀ fs : List (Str × V), (x5 f v fs).length ≤ fs.length + 1
  | [] => by simp [x5]
  | (k, x) :: r => by
    have ih := kn f v r
    rw [show x5 f v ((k, x) :: r) = (if k = f then (k, v) :: r else (k, x) :: x5 f v r) from rfl]
    by_cases hk : k = f
    · rw [if_pos hk, List.length_cons, List.length_cons]; omega
    · rw [if_neg hk, List.length_cons, List.length_cons]; omega
theorem x4.some_of {v : V} {o : Option Value} (r : x4 (some v) o) : ∃ u, o = some u ∧ RelV v u := by
  cases o with
  | none => exact (show False from r).elim
  | some u => exact ⟨u, rfl, r⟩
theorem x4.none_of {o : Option Value} (r : x4 none o) : o = none := by
  cases o with
  | none => rfl
  | some u => exact (show False from r).elim
theorem QM {v : V} {u : Value} (r : RelV v u) : PySem.W.handedIn u = true := by
  cases v with
  | non => cases (show u = Value.none from r); rfl
  | bl b => cases (show u = Value.bool b from r); rfl
  | int i => obtain ⟨t, e⟩ := (show ∃ t, u = Value.int i t from r); cases e; rfl
  | str x => obtain ⟨t, e⟩ := (show ∃ t, u = Value.str x t from r); cases e; rfl
  | byt b => obtain ⟨t, e⟩ := (show ∃ t, u = Value.bytes b t from r); cases e; rfl
  | flt b => obtain ⟨t, e⟩ := (show ∃ t, u = Value.float b t from r); cases e; rfl
  | ref a => cases (show u = Value.ref a from r); rfl
  | ty n => cases (show u = Value.type n from r); rfl
section
variable {P : Program} {w : World} {H H' : Hp} {h h' : Heap} {a C dx : Addr} {fs fs' : List (Str × V)}
theorem jZ (hok : HOk P w H h) (e : H a = some (.ins C dx fs)) : ∃ mA, ObjM h a dx C mA ∧ (∀ f, x4 (fs.lookup f) (mA f)) ∧ PySem.Within mA (fs.map (·.1)) ∧ fs.length ≤ 1000 ∧ H dx = some (.own a) := by
  obtain ⟨d, z, ne, ob, mA, n, r, q⟩ := (show yW P w H h a (.ins C dx fs) from hok a _ e)
  exact ⟨mA, ⟨ob, n, ne⟩, r, q, z, d⟩
end
structure Cls (K : PySem.W.Frag) (C : Addr) : Prop where
  pg : PySem.W.plainGet K C Str.empty = true
  hd : PySem.W.hasDictIn K C = true
  po : PySem.W.plainOver K C = true
  sa : PySem.W.findIn K (.ref C) "__setattr__" = some (some (.builtin "object.__setattr__"))
theorem Cls.get {K : PySem.W.Frag} {C : Addr} (c : Cls K C) (f : Str) : PySem.W.plainGet K C f = true := c.pg
noncomputable def NoAttr (K : PySem.W.Frag) (C : Addr) (f : Str) : Prop := PySem.W.findIn K (.ref C) f = some none
theorem NoAttr.taker {K : PySem.W.Frag} {C : Addr} {f : Str} (n : NoAttr K C f) : PySem.W.takerIn K C f = some none := by
  unfold PySem.W.takerIn
  rw [show PySem.W.findIn K (.ref C) f = some none from n]
  rfl
structure Meth (K : PySem.W.Frag) (C : Addr) (m : Str) (f : Addr) : Prop where
  at_ : PySem.W.findIn K (.ref C) m = some (some (.ref f))
  fn : PySem.W.isFn K (.ref f) = true
  kp : PySem.W.keepIn K (.ref f) = true
section
variable {X : Cx} {pins : List (Addr × Obj)} {σ : St} {H : Hp} {s : Shared} {a C dx : Addr} {fs : List (Str × V)} {f : Str} {v : V} {A : Around} {E : Value → Shared → Prop}
theorem Ut {b : Bool} {Q : Value → Shared → Prop} (I : Inv X pins σ H s) (e : H a = some (.ins C dx fs)) (c : Cls X.K C) (n : NoAttr X.K C f) (l : fs.lookup f = some v)
    (h : ∀ u s', Inv X pins σ H s' → RelV v u → Q u s') : wpAny (model X.prog X.w) A (getAttr (.ref a) f b) Q E s := by
  obtain ⟨mA, O, r, _, _, _⟩ := jZ I.hok e
  obtain ⟨u, hu, ru⟩ := x4.some_of (v := v) (o := mA f) (by rw [← l]; exact r f)
  exact zaY I.kIn O (c.get f) c.hd n hu (QM ru) (h u _ (I.tok _) ru)
theorem Uu {m : Str} {g : Addr} {pl : Sem Bool} {Q : Value × List Value → Shared → Prop} (I : Inv X pins σ H s) (e : H a = some (.ins C dx fs)) (c : Cls X.K C) (k : Meth X.K C m g) (l : fs.lookup m = none)
    (h : Q (.ref g, [.ref a]) s) : wpAny (model X.prog X.w) A (getMethod (.ref a) m pl) Q E s := by
  obtain ⟨mA, O, r, _, _, _⟩ := jZ I.hok e
  have hn : mA m = none := x4.none_of (by rw [← l]; exact r m)
  exact JO I.kIn O (c.get m) k.at_ k.fn hn h
theorem Uv {y : V} {u : Value} {Q : Unit → Shared → Prop} (I : Inv X pins σ H s) (e : H a = some (.ins C dx fs)) (c : Cls X.K C) (n : NoAttr X.K C f) (hl : fs.length < 1000) (ry : RelV y u)
    (h : ∀ s', Inv X pins σ (upd H a (.ins C dx (x5 f y fs))) s' → Q () s') : wpAny (model X.prog X.w) A (setAttr (.ref a) f u) Q E s := by
  obtain ⟨mA, O, r, wi, _, ho⟩ := jZ I.hok e
  have hz : (fs.map (·.1)).length ≤ sizeLine := by rw [List.length_map, sizeLine_eq]; omega
  refine zaZ I.kIn O c.sa c.po n.taker c.hd wi hz fun h' O' sb => h _ ?_
  have hd : ∃ o, h'.get? dx = some o := let ⟨o, _, _, e', _⟩ := O'.ns; ⟨o, e'⟩
  refine I.write (x := a) (e := dx) (by rw [e]; exact True.intro) (.inr ho) (fun b q hb z => (sb.2 b hb).trans z) hd ?_
  refine ⟨by rw [zj O.ne]; exact ho, ?_, O.ne, O'.obj, _, O'.ns, fun g => ?_, fun g hg => ?_⟩
  · have := kn f y fs; omega
  · show x4 ((x5 f y fs).lookup g) (if g = f then some u else mA g)
    rw [km]
    by_cases q : g = f
    · rw [if_pos q, if_pos q]; exact ry
    · rw [if_neg q, if_neg q]; exact r g
  · by_cases q : g = f
    · rw [q]; exact (jp f y fs).1
    · refine (jp f y fs).2 g (wi g fun z => hg ?_)
      show (if g = f then some u else mA g) = none
      rw [if_neg q]; exact z
theorem Inv.made (I : Inv X pins σ H s) : Inv X pins σ (upd (upd H s.heap.objs.size (.own (s.heap.objs.size + 1))) (s.heap.objs.size + 1) (.ins C s.heap.objs.size []))
    { s with heap := (s.heap.push PySem.W.emptyDict).push (PySem.W.instObj C s.heap.objs.size) } := by
  have e1 : (s.heap.push PySem.W.emptyDict).get? s.heap.objs.size = some PySem.W.emptyDict := Heap.get?_push_size s.heap rfl
  have e2 : ((s.heap.push PySem.W.emptyDict).push (PySem.W.instObj C s.heap.objs.size)).get? (s.heap.objs.size + 1) = some (PySem.W.instObj C s.heap.objs.size) := by
    have := Heap.get?_push_size (s.heap.push PySem.W.emptyDict) (o := PySem.W.instObj C s.heap.objs.size) rfl
    rwa [Heap.size_push] at this
  have e3 : (s.heap.push PySem.W.emptyDict).Ns s.heap.objs.size (fun _ => none) := ⟨PySem.W.emptyDict, #[], _, e1, rfl, (fun e he => absurd he (by simp)), fun _ => rfl⟩
  have I1 := I.laid (a := s.heap.objs.size) (o := .own (s.heap.objs.size + 1)) (h' := s.heap.push PySem.W.emptyDict) (t' := s.toks) (fun b u q => Heap.get?_push_of_some _ q) (Nat.le_refl _) ⟨_, e1⟩
  refine I1.laid (a := s.heap.objs.size + 1) (o := .ins C s.heap.objs.size []) (t' := s.toks) (fun b u q => Heap.get?_push_of_some _ q) (Nat.le_of_eq (Heap.size_push _ _)) ?_
  have ne : s.heap.objs.size ≠ s.heap.objs.size + 1 := Nat.ne_of_lt (Nat.lt_succ_self _)
  refine ⟨by rw [zj ne, zx], Nat.zero_le _, ne, e2, fun _ => none, (Heap.Ns1.of_empty e3).at fun o q => Heap.get?_push_of_some _ q, fun _ => True.intro, fun y hy => absurd rfl hy⟩
theorem za0 {prog : Program} {w : World} {env : Env} {e : Expr} {f : Str} {pos : Pos} {s : Shared} {Q : Value → Shared → Prop} (hb : attributeBase e f env (eval e env) = eval e env)
    (h : wpAny (model prog w) A (eval e env) (fun o s₁ => wpAny (model prog w) A (getAttr o f true) Q E s₁) E s) : wpAny (model prog w) A (eval (.Attribute e f pos) env) Q E s :=
  Attribute_any_ h (by rw [arm_eval_Attribute, hb])
end
noncomputable def JQ (K : PySem.W.Frag) (ta : TE) (f : Str) : TE := fun σ H Q => ta σ H fun x H1 => ∃ a C dx fs v, x = .ref a ∧ H1 a = some (.ins C dx fs) ∧ Cls K C ∧ NoAttr K C f ∧ fs.lookup f = some v ∧ Q v H1
noncomputable def JR (K : PySem.W.Frag) (ta tv : TE) (f : Str) : TS := fun D σ H => tv σ H fun y H1 => ta σ H1 fun x H2 => ∃ a C dx fs, x = .ref a ∧ H2 a = some (.ins C dx fs) ∧ Cls K C ∧ NoAttr K C f ∧ fs.length < 1000 ∧
  D.nx σ (upd H2 a (.ins C dx (x5 f y fs)))
section
variable {X : Cx} {o e value : Expr} {f : Str} {pos pos' tpos : Pos} {ta tv : TE}
theorem zch (he : PE X e ta) (hb : attributeBase e f X.env (eval e X.env) = eval e X.env) : PE X (.Attribute e f pos) (JQ X.K ta f) := by
  intro pins s σ H Q I h
  refine za0 hb (thn (he pins s σ H _ I h) fun u s1 ⟨x, H1, I1, rx, a, C, dx, fs, v, ex, ea, c, n, l, q⟩ => ?_)
  subst ex
  obtain rfl : u = Value.ref a := rx
  exact Ut I1 ea c n l fun u' s2 I2 ru => ⟨v, H1, I2, ru, q⟩
theorem zci (ha : PE X o ta) (hv : PE X value tv) (hs : swapsWith value (some (.Attribute o f pos')) pos.line X.env = pure false) : PS X (.Assign [.Attribute o f pos'] value pos) (JR X.K ta tv f) := by
  intro pins s σ H D I h
  refine plainObj_wpAny_Assign_Attribute (thn (hv pins s σ H _ I h) fun u s1 ⟨y, H1, I1, ry, q⟩ => thn (ha pins s1 σ H1 _ I1 q) fun ov s2 ⟨x, H2, I2, rx, a, C, dx, fs, ex, ea, c, n, l, q2⟩ => ?_) hs
  subst ex
  obtain rfl : ov = Value.ref a := rx
  exact Uv I2 ea c n l ry fun s3 I3 => ⟨σ, _, I3, q2⟩
end
section
variable {X : Cx} {pins : List (Addr × Obj)} {σ : St} {H : Hp} {s : Shared} {A : Around} {E : Value → Shared → Prop} {Q : Value → Shared → Prop} {c : Value} {b : Bool}
inductive TyOf (K : PySem.W.Frag) (H : Hp) : V → Value → Prop where
  | non : TyOf K H .non (.type "NoneType")
  | bl (x : Bool) : TyOf K H (.bl x) (.type "bool")
  | int (i : Int) : TyOf K H (.int i) (.type "int")
  | str (x : Str) : TyOf K H (.str x) (.type "str")
  | flt (x : UInt64) : TyOf K H (.flt x) (.type "float")
  | lst {a : Addr} {xs : List V} (e : H a = some (.lst xs)) : TyOf K H (.ref a) (.type "list")
  | frz {a : Addr} {o : Obj} {xs : List V} (e : H a = some (.frz o (.lst xs))) : TyOf K H (.ref a) (.type "list")
  | tup {a : Addr} {xs : List V} (e : H a = some (.tup xs)) : TyOf K H (.ref a) (.type "tuple")
  | dK {a : Addr} {kvs : List (Key × V)} (e : H a = some (.dK kvs)) : TyOf K H (.ref a) (.type "dict")
  | dT {a : Addr} {kvs : List (List Key × V)} (e : H a = some (.dT kvs)) : TyOf K H (.ref a) (.type "dict")
  | ins {a C dx : Addr} {fs : List (Str × V)} (e : H a = some (.ins C dx fs)) (cl : Cls K C) (ha : PySem.W.findIn K (.ref C) "__class__" = some (some (.builtin "object.__class__")))
      (hn : PySem.W.specialIn K (.builtin "object.__class__") "__get__" = some (some (.builtin "getset_descriptor.__get__"))) (htk : PySem.W.takesIn K (.builtin "object.__class__") = some true)
      (hm : PySem.W.mroIn K C (.type "object") = some true) : TyOf K H (.ref a) (.ref C)
theorem QN {x : V} {u t : Value} (I : Inv X pins σ H s) (rx : RelV x u) (ty : TyOf X.K H x t) (e : PySem.W.kitOne X.K t c = some b) (h : ∀ tk, Q (.bool b) { s with toks := tk }) :
    wpAny (model X.prog X.w) A (call (.builtin "isinstance") [u, c]) Q E s := by
  cases ty with
  | non => cases (show u = Value.none from rx); exact PySem.W.kia_one PySem.W.kitx_none I.kIn True.intro e (fun z => nomatch z) h
  | bl y => cases (show u = Value.bool y from rx); exact PySem.W.kia_one PySem.W.kitx_bool I.kIn True.intro e (fun z => nomatch z) h
  | int i => obtain ⟨t, q⟩ := (show ∃ t, u = Value.int i t from rx); cases q; exact PySem.W.kia_one PySem.W.kitx_int I.kIn True.intro e (fun z => nomatch z) h
  | str y => obtain ⟨t, q⟩ := (show ∃ t, u = Value.str y t from rx); cases q; exact PySem.W.kia_one PySem.W.kitx_str I.kIn True.intro e (fun z => nomatch z) h
  | flt y => obtain ⟨t, q⟩ := (show ∃ t, u = Value.float y t from rx); cases q; exact PySem.W.kia_one PySem.W.kitx_float I.kIn True.intro e (fun z => nomatch z) h
  | @lst a xs ea =>
    cases (show u = Value.ref a from rx)
    obtain ⟨_, _, n, _, h1⟩ := (show yW X.prog X.w H s.heap a (.lst xs) from I.hok a _ ea)
    exact PySem.W.kia_one PySem.W.kitx_list I.kIn ⟨_, h1, rfl⟩ e (fun z => nomatch z) h
  | @frz a ob xs ea =>
    cases (show u = Value.ref a from rx)
    obtain ⟨_, _, _, n, _, h1⟩ := (show yW X.prog X.w H s.heap a (.frz ob (.lst xs)) from I.hok a _ ea)
    exact PySem.W.kia_one PySem.W.kitx_list I.kIn ⟨_, h1, rfl⟩ e (fun z => nomatch z) h
  | @tup a xs ea =>
    cases (show u = Value.ref a from rx)
    obtain ⟨_, _, _, p⟩ := (show yW X.prog X.w H s.heap a (.tup xs) from I.hok a _ ea)
    obtain ⟨o, h1, h2, _⟩ := p
    exact PySem.W.kia_one PySem.W.kitx_tuple I.kIn ⟨o, h1, h2⟩ e (fun z => nomatch z) h
  | @dK a kvs ea =>
    cases (show u = Value.ref a from rx)
    obtain ⟨_, _, vs, _, p⟩ := (show yW X.prog X.w H s.heap a (.dK kvs) from I.hok a _ ea)
    obtain ⟨o, es, ep, h1, h2, _⟩ := p
    exact PySem.W.kia_one PySem.W.kitx_dict I.kIn ⟨o, h1, h2.1⟩ e (fun z => nomatch z) h
  | @dT a kvs ea =>
    cases (show u = Value.ref a from rx)
    obtain ⟨_, _, xs, _, o, es, ep, h1, h2, _⟩ := (show yW X.prog X.w H s.heap a (.dT kvs) from I.hok a _ ea)
    exact PySem.W.kia_one PySem.W.kitx_dict I.kIn ⟨o, h1, h2.1⟩ e (fun z => nomatch z) h
  | @ins a C dx fs ea cl ha hn htk hm =>
    cases (show u = Value.ref a from rx)
    obtain ⟨mA, O, _⟩ := jZ I.hok ea
    obtain ⟨od, J, _⟩ := O.look
    exact PySem.W.kia_one (PySem.W.kitx_own (cl.get _) cl.hd ha hn htk hm) I.kIn J e (fun z => nomatch z) h
end
end L2
namespace L2
open PySem PySem.Spec PyProof.Rows
structure Room (k : Nat) (A : Around) : Prop where
  hd : A.handled = none
  dp : A.depth + 3 * k + 5 < recursionLimit
  un : A.units + 16 * k + 200 < cLine
  gd : A.guards = some []
theorem Room.mono {j k : Nat} {A : Around} (r : Room k A) (h : j ≤ k) : Room j A := ⟨r.hd, by have := r.dp; omega, by have := r.un; omega, r.gd⟩
theorem Room.deeper {k : Nat} {A : Around} (r : Room (k + 1) A) (env : Env) : Room k (A.deeper env) :=
  ⟨r.hd, by have := r.dp; show A.depth + 1 + 3 * k + 5 < _; omega, by have := r.un; show A.units + 3 + 16 * k + 200 < _; omega, r.gd⟩
theorem Room.in1 {k : Nat} {A : Around} (r : Room (k + 1) A) : Room k A.in1 :=
  ⟨r.hd, by have := r.dp; show A.depth + 3 * k + 5 < _; omega, by have := r.un; show A.units + 1 + 16 * k + 200 < _; omega, r.gd⟩
theorem Uw {A : Around} {C : Addr} {us : List Value} {kw : List (Str × Value)} : (A.under (.builtin "type.__call__" ⟨.ref C :: us, kw⟩)).depth = A.depth + 1 := by
  first | rfl | simp [Around.under, Code.weight, Code.isCreation, Code.isGuard, Code.isCaller, Code.frames, Code.isFrame, guardIds]
theorem Ux {A : Around} {C : Addr} {us : List Value} {kw : List (Str × Value)} : (A.under (.builtin "type.__call__" ⟨.ref C :: us, kw⟩)).units = A.units + 1 := by
  first | rfl | simp [Around.under, Code.cUnits, Code.frames, Code.isFrame]
theorem Vn {A : Around} {C : Addr} {us : List Value} {kw : List (Str × Value)} : (A.under (.builtin "type.__call__" ⟨.ref C :: us, kw⟩)).guards = A.guards := by
  first | rfl | simp [Around.under, Code.guards, Code.isGuard, guardIds, pushGuards]
theorem Room.make {k : Nat} {A : Around} (r : Room (k + 1) A) (C : Addr) (us : List Value) (kw : List (Str × Value)) : Room k (A.under (.builtin "type.__call__" ⟨.ref C :: us, kw⟩)) :=
  ⟨r.hd, by have := r.dp; rw [Uw]; omega, by have := r.un; rw [Ux]; omega, by rw [Vn]; exact r.gd⟩
theorem Room.depth {k : Nat} {A : Around} (r : Room k A) : A.depth < recursionLimit := by have := r.dp; omega
theorem Room.units {k : Nat} {A : Around} (r : Room k A) : A.units + 64 < cLine := by have := r.un; omega
noncomputable def jq : TA := fun _ H Q => Q [] H
noncomputable def j4 (ta : TE) (tr : TA) : TA := fun σ H Q => ta σ H fun x H1 => tr σ H1 fun xs H2 => Q (x :: xs) H2
section
variable {X : Cx} {e : Expr} {es : List Expr} {te : TE} {t : TA} {pos : Pos}
theorem zcj : PA X [] jq := fun _ _ _ _ H Q I h => Calls.spliced_nil ⟨[], H, I, .nil, h⟩
theorem za1 (ha : PE X e te) (hr : PA X es t) (hs : starEach (e :: es) X.env = (false, eval e X.env) :: starEach es X.env := by rfl) : PA X (e :: es) (j4 te t) := by
  intro pos pins s σ H Q I h
  rw [hs]
  show wpAny _ _ (spliced ((false, eval e X.env) :: backTo pos (starEach es X.env))) _ _ s
  refine Calls.spliced_cons (thn (ha pins s σ H _ I h) fun u s1 ⟨x, H1, I1, r1, q1⟩ => ?_)
  exact thn (hr pos pins s1 σ H1 _ I1 q1) fun us s2 ⟨xs, H2, I2, r2, q2⟩ => ⟨x :: xs, H2, I2, .cons r1 r2, q2⟩
noncomputable def JS (t : TA) : TE := fun σ H Q => t σ H fun xs H1 => xs.length ≤ sizeLine ∧ ∀ p, H1 p = none → Q (.ref p) (upd H1 p (.tup xs))
noncomputable def ZT (t : TA) : TE := fun σ H Q => t σ H fun xs H1 => xs.length ≤ sizeLine ∧ ∀ p, H1 p = none → Q (.ref p) (upd H1 p (.lst xs))
theorem zck {x1} (h : PA X es t) : PE X (.Tuple es x1 pos) (JS t) := by
  intro pins s σ H Q I hq
  refine wpAny_Tuple_spliced (thn (h pos pins s σ H _ I hq) fun us s1 ⟨xs, H1, I1, r, z, q⟩ => ⟨by rw [← r.length]; exact z, ?_⟩)
  have hf : H1 s1.heap.objs.size = none := I1.hok.fresh (Nat.le_refl _)
  refine ⟨.ref s1.heap.objs.size, upd H1 s1.heap.objs.size (.tup xs), I1.laid (t' := s1.toks) (fun b u e => Heap.get?_push_of_some _ e) (Nat.le_refl _) ?_, rfl, q _ hf⟩
  exact ⟨z, us, r, ⟨_, Heap.get?_push_size _ rfl, rfl, _, rfl⟩⟩
theorem Xc (h : PA X es t) : PE X (.List es pos) (ZT t) := by
  intro pins s σ H Q I hq
  refine wpAny_List_spliced (thn (h pos pins s σ H _ I hq) fun us s1 ⟨xs, H1, I1, r, z, q⟩ => ⟨by rw [← r.length]; exact z, ?_⟩)
  have hf : H1 s1.heap.objs.size = none := I1.hok.fresh (Nat.le_refl _)
  refine ⟨.ref s1.heap.objs.size, upd H1 s1.heap.objs.size (.lst xs), I1.laid (t' := s1.toks) (fun b u e => Heap.get?_push_of_some _ e) (Nat.le_refl _) ?_, rfl, q _ hf⟩
  exact ⟨z, us, 0, r, Heap.get?_push_size _ rfl⟩
end
noncomputable abbrev Sp := List V → Hp → VK → XK → Prop
noncomputable abbrev CXT := List Env → Hp → Shared → XK → Value → Shared → Prop
structure Env0 (P : Program) (w : World) (K : PySem.W.Frag) (mg : Str → Option Value) (base : Heap) (A : Around) (outer : List Env) (s : Shared) (H : Hp) : Prop where
  frames : A.frames = some outer
  mod : Mod K mg base
  bs : ∀ b o, base.get? b = some o → s.heap.get? b = some o ∧ H b = none
  bsz : base.objs.size ≤ s.heap.objs.size
  funs : s.heap.FunFrames base outer
  frf : ∀ b ∈ frs outer, H b = none
  hok : HOk P w H s.heap
  bare : AllBare s.gens
noncomputable def CE (outer : List Env) (P : Program) (w : World) (H : Hp) (s : Shared) (Q : VK) (u : Value) (s' : Shared) : Prop :=
  ∃ v H', s'.os = s.os ∧ AllBare s'.gens ∧ Un (frs outer) [] H H' s.heap s'.heap ∧ HOk P w H' s'.heap ∧ RelV v u ∧ Q v H'
noncomputable def CR (CX : CXT) (outer : List Env) (P : Program) (w : World) (H : Hp) (s : Shared) (Q : VK) (E : XK) (r : Result) (s' : Shared) : Prop :=
  match r with
  | .ok (.ret u) => CE outer P w H s Q u s'
  | .ok _ => False
  | .error e => CX outer H s E e s'
structure FnOk (P : Program) (w : World) (K : PySem.W.Frag) (mg : Str → Option Value) (base : Heap) (CX : CXT) (k : Nat) (f : Addr) (fd : FuncData) (ps : List Str) (sp : Sp) : Prop where
  len : ∀ vs H Q E, sp vs H Q E → vs.length = ps.length
  run : ∀ (A : Around) (outer : List Env) (s : Shared) (H : Hp) (args : Args) (us : List Value) (vs : List V) (Q : VK) (E : XK), Room k A → Env0 P w K mg base A outer s H → BindsTo s fd args (ps.zip us) → Vals vs us → sp vs H Q E →
    codeAny (model P w) A (.call (.ref f) args) (CR CX outer P w H s Q E) s
theorem FnOk.mono {P : Program} {w : World} {K : PySem.W.Frag} {mg : Str → Option Value} {base : Heap} {CX : CXT} {j k : Nat} {f : Addr} {fd : FuncData} {ps : List Str} {sp : Sp} (F : FnOk P w K mg base CX j f fd ps sp) (h : j ≤ k) :
    FnOk P w K mg base CX k f fd ps sp := ⟨F.len, fun A outer s H args us vs Q E hr => F.run A outer s H args us vs Q E (hr.mono h)⟩
theorem FnOk.imp {P : Program} {w : World} {K : PySem.W.Frag} {mg : Str → Option Value} {base : Heap} {CX : CXT} {k : Nat} {f : Addr} {fd : FuncData} {ps : List Str} {sp sp' : Sp} (F : FnOk P w K mg base CX k f fd ps sp)
    (h : ∀ vs H Q E, sp' vs H Q E → sp vs H Q E) : FnOk P w K mg base CX k f fd ps sp' :=
  ⟨fun vs H Q E q => F.len vs H Q E (h _ _ _ _ q), fun A outer s H args us vs Q E hr he hb hv hs => F.run A outer s H args us vs Q E hr he hb hv (h _ _ _ _ hs)⟩
theorem Env0.make {P : Program} {w : World} {K : PySem.W.Frag} {mg : Str → Option Value} {base : Heap} {A : Around} {outer : List Env} {s : Shared} {H : Hp} (e : Env0 P w K mg base A outer s H) (C : Addr) (us : List Value) (kw : List (Str × Value)) :
    Env0 P w K mg base (A.under (.builtin "type.__call__" ⟨.ref C :: us, kw⟩)) outer s H := ⟨by first | exact e.frames | (simpa [Around.under, Code.envs, Code.isFrame, pushEnvs] using e.frames), e.mod, e.bs, e.bsz, e.funs, e.frf, e.hok, e.bare⟩
theorem Env0.in1 {P : Program} {w : World} {K : PySem.W.Frag} {mg : Str → Option Value} {base : Heap} {A : Around} {outer : List Env} {s : Shared} {H : Hp} (e : Env0 P w K mg base A outer s H) :
    Env0 P w K mg base A.in1 outer s H := ⟨e.frames, e.mod, e.bs, e.bsz, e.funs, e.frf, e.hok, e.bare⟩
section
variable {X : Cx} {pins : List (Addr × Obj)} {σ : St} {H : Hp} {s s' : Shared}
theorem Inv.env0 (I : Inv X pins σ H s) : Env0 X.prog X.w X.K X.mg X.base X.A X.stack s H :=
  ⟨I.ok.frames, I.ok.mod, I.bs, Nat.le_trans I.ok.bsz I.sz, I.stack, I.stkFree, I.hok, I.bare⟩
theorem Inv.after {Q : VK} {u : Value} (I : Inv X pins σ H s) (h : CE X.stack X.prog X.w H s Q u s') : EP X pins σ Q u s' := by
  obtain ⟨v, H', os, bare, un, hok, r, q⟩ := h
  obtain ⟨hh, g, d, t, os'⟩ := s'
  obtain rfl : os' = s.os := os
  exact ⟨v, H', I.call (h' := hh) (g' := g) (d' := d) (t' := t) (ch := []) un hok bare (fun b z => absurd z (by simp)), r, q⟩
end
noncomputable def j6 (sp : Sp) (dvs : List V) (E : XK) (t : TA) : TE := fun σ H Q => t σ H fun vs H1 => sp (vs ++ dvs) H1 Q E
noncomputable def Uy (C : Addr) (m : Str) (sp : Sp) (dvs : List V) (E : XK) (ta : TE) (t : TA) : TE := fun σ H Q => ta σ H fun x H1 => ∃ a dx fs, x = .ref a ∧ H1 a = some (.ins C dx fs) ∧ fs.lookup m = none ∧
  t σ H1 fun vs H2 => sp (x :: (vs ++ dvs)) H2 Q E
noncomputable def Uz (C : Addr) (sp : Sp) (dvs : List V) (E : XK) (t : TA) : TE := fun σ H Q => t σ H fun vs H1 => ∀ x dx, H1 x = none → H1 dx = none → dx ≠ x →
  sp (.ref x :: (vs ++ dvs)) (upd (upd H1 dx (.own x)) x (.ins C dx [])) (fun v H2 => v = .non ∧ Q (.ref x) H2) E
noncomputable def Binds (K : PySem.W.Frag) (fd : FuncData) (ps : List Str) (ds : List Value) : Prop :=
  ∀ (s : Shared) (us : List Value), K.In s.heap → (us ++ ds).length = ps.length → BindsTo s fd ⟨us, []⟩ (ps.zip (us ++ ds))
theorem Binds.all {K : PySem.W.Frag} {fd : FuncData} {ps : List Str} (h : ∀ us : List Value, us.length = ps.length → bindArgs fd ⟨us, []⟩ = pure (ps.zip us)) : Binds K fd ps [] := fun s us _ hl => by
  rw [List.append_nil] at hl ⊢
  exact .of_eq (h us hl)
noncomputable def uA (CX : CXT) (X : Cx) (E : XK) : Prop := ∀ (pins : List (Addr × Obj)) (σ : St) (H : Hp) (s : Shared) (e : Value) (s' : Shared), Inv X pins σ H s → CX X.stack H s E e s' → X.xe e s'
section
variable {X : Cx} {CX : CXT} {k : Nat} {f C : Addr} {fd : FuncData} {ps : List Str} {sp : Sp} {dvs : List V} {ds : List Value} {E : XK} {x m : Str} {p pos apos : Pos} {e o : Expr} {es : List Expr} {ta : TE} {t : TA}
theorem QO {pins : List (Addr × Obj)} {σ : St} {H : Hp} {s : Shared} {Q : VK} {us : List Value} {vs : List V} (F : FnOk X.prog X.w X.K X.mg X.base CX k f fd ps sp) (hr : Room k X.A) (hb : Binds X.K fd ps ds) (hd : Vals dvs ds) (hx : uA CX X E)
    (I : Inv X pins σ H s) (r : Vals vs us) (h : sp (vs ++ dvs) H Q E) : wpAny (model X.prog X.w) X.A (call (.ref f) us) (EP X pins σ Q) X.xe s := by
  have r2 : Vals (vs ++ dvs) (us ++ ds) := r.append hd
  have hl : (us ++ ds).length = ps.length := by rw [← r2.length]; exact F.len _ _ _ _ h
  refine wpAny_call (codeAny_mono (F.run X.A X.stack s H ⟨us, []⟩ (us ++ ds) (vs ++ dvs) Q E hr I.env0 (hb s us I.kIn hl) r2 h) fun r s' hq => ?_)
  cases r with
  | error e => exact hx pins σ H s e s' I hq
  | ok fl =>
    cases fl with
    | ret u => exact I.after hq
    | next => exact False.elim hq
    | brk => exact False.elim hq
    | cont => exact False.elim hq
theorem za2 (F : FnOk X.prog X.w X.K X.mg X.base CX k f fd ps sp) (hr : Room k X.A) (hg : Gl X x) (hm : X.mg x = some (.ref f)) (hk : PySem.W.keepIn X.K (.ref f) = true) (hb : Binds X.K fd ps ds) (hd : Vals dvs ds) (hx : uA CX X E)
    (ha : PA X (e :: es) t) (hdb : (x == ("__debug__" : Str)) = false := by decide) (he : starEach (e :: es) X.env = (false, eval e X.env) :: starEach es X.env := by rfl) (hpl : (backTo pos (starEach es X.env)).any (·.1) = false := by rfl) :
    PE X (.Call (.Name x p) (e :: es) [] pos) (j6 sp dvs E t) := by
  intro pins s σ H Q I h
  refine wpAny_Call_Name_kw (ZO I hg hm ?_ hdb)
  refine PySem.W.callWith_K (h₀ := X.base) I.ok.mod.kin hk (thn (ha pos pins s σ H _ I h) fun us s1 ⟨vs, H1, I1, r, q⟩ => ⟨I1.kIn, ?_⟩) he hpl
  exact QO F hr hb hd hx I1 r q
theorem JT {pl : Sem Bool} (he : PE X o ta) (c : Cls X.K C) (hm : Meth X.K C m f) (F : FnOk X.prog X.w X.K X.mg X.base CX k f fd ps sp) (hr : Room k X.A) (hb : Binds X.K fd ps ds) (hd : Vals dvs ds) (hx : uA CX X E)
    (ht : eval (.Call (.Attribute o m apos) [] [] pos) X.env = (do
      let ov ← eval o X.env
      standAt apos.atName
      let (f, first) ← holding [ov] (getMethod ov m pl)
      callWith pos f first (backTo pos (starEach [] X.env)) (backToKw pos (keywordEach [] X.env))) := by rfl) :
    PE X (.Call (.Attribute o m apos) [] [] pos) (Uy C m sp dvs E ta jq) := by
  intro pins s σ H Q I h
  refine PySem.W.methodCall_KW (pl := pl) (thn (he pins s σ H _ I h) fun u s1 ⟨x, H1, I1, rx, a, dx, fs, ex, ea, l, q⟩ => ?_) ht
  subst ex
  obtain rfl : u = Value.ref a := rx
  refine Uu I1 ea c hm l ?_
  exact PySem.W.callWith_K0 (first := [.ref a]) I1.kIn hm.kp (QO (us := [.ref a]) (vs := [.ref a]) F hr hb hd hx I1 (.cons rfl .nil) q)
structure Mk (K : PySem.W.Frag) (C f : Addr) : Prop where
  makes : PySem.W.makesIn K C = true
  init : PySem.W.findIn K (.ref C) "__init__" = some (some (.ref f))
  fn : PySem.W.isFn K (.ref f) = true
  kp : PySem.W.keepIn K (.ref C) = true
theorem JU {pins : List (Addr × Obj)} {σ : St} {H : Hp} {s : Shared} {Q : VK} {us : List Value} {vs : List V} (M : Mk X.K C f) (F : FnOk X.prog X.w X.K X.mg X.base CX k f fd ps sp) (hr : Room (k + 1) X.A) (hb : Binds X.K fd ps ds) (hd : Vals dvs ds)
    (hx : uA CX X E) (I : Inv X pins σ H s) (r : Vals vs us)
    (h : ∀ x dx, H x = none → H dx = none → dx ≠ x → sp (.ref x :: (vs ++ dvs)) (upd (upd H dx (.own x)) x (.ins C dx [])) (fun v H2 => v = .non ∧ Q (.ref x) H2) E) :
    wpAny (model X.prog X.w) X.A (call (.ref C) us) (EP X pins σ Q) X.xe s := by
  have hq := h (s.heap.objs.size + 1) s.heap.objs.size (I.hok.fresh (Nat.le_succ _)) (I.hok.fresh (Nat.le_refl _)) (Nat.ne_of_lt (Nat.lt_succ_self _))
  have I2 := Inv.made (C := C) I
  have r2 : Vals (V.ref (s.heap.objs.size + 1) :: (vs ++ dvs)) (Value.ref (s.heap.objs.size + 1) :: (us ++ ds)) := .cons rfl (r.append hd)
  have hl : (Value.ref (s.heap.objs.size + 1) :: us ++ ds).length = ps.length := by
    have e := r2.length
    rw [F.len _ _ _ _ hq] at e
    exact e.symm
  refine wpAny_call (JP (f := f) I.kIn M.makes M.init (beq_iff_eq.mp M.fn) (codeAny_mono (F.run _ X.stack _ _ ⟨Value.ref (s.heap.objs.size + 1) :: us, []⟩ (Value.ref (s.heap.objs.size + 1) :: (us ++ ds)) _ _ E (hr.make C us [])
    (I2.env0.make C us []) (hb _ (Value.ref (s.heap.objs.size + 1) :: us) I2.kIn hl) r2 hq) fun r s' hq' => ?_))
  cases r with
  | error e => exact hx pins σ _ _ e s' I2 hq'
  | ok fl =>
    cases fl with
    | ret u =>
      obtain ⟨v, H', I3, rv, ev, q3⟩ := I2.after hq'
      subst ev
      exact ⟨rv, ⟨V.ref (s.heap.objs.size + 1), H', I3, rfl, q3⟩⟩
    | next => exact False.elim hq'
    | brk => exact False.elim hq'
    | cont => exact False.elim hq'
theorem za3 (M : Mk X.K C f) (F : FnOk X.prog X.w X.K X.mg X.base CX k f fd ps sp) (hr : Room (k + 1) X.A) (hg : Gl X x) (hm : X.mg x = some (.ref C)) (hb : Binds X.K fd ps ds) (hd : Vals dvs ds) (hx : uA CX X E)
    (ha : PA X (e :: es) t) (hdb : (x == ("__debug__" : Str)) = false := by decide) (he : starEach (e :: es) X.env = (false, eval e X.env) :: starEach es X.env := by rfl) (hpl : (backTo pos (starEach es X.env)).any (·.1) = false := by rfl) :
    PE X (.Call (.Name x p) (e :: es) [] pos) (Uz C sp dvs E t) := by
  intro pins s σ H Q I h
  refine wpAny_Call_Name_kw (ZO I hg hm ?_ hdb)
  refine PySem.W.callWith_K (h₀ := X.base) I.ok.mod.kin M.kp (thn (ha pos pins s σ H _ I h) fun us s1 ⟨vs, H1, I1, r, q⟩ => ⟨I1.kIn, ?_⟩) he hpl
  exact JU M F hr hb hd hx I1 r q
end
section
variable {X : Cx} {CX : CXT} {k : Nat} {f C : Addr} {fd : FuncData} {ps ks : List Str} {sp : Sp} {E : XK} {x m : Str} {p pos apos kpos : Pos} {e o : Expr} {es : List Expr} {kws : List Keyword} {te ta : TE} {t tk : TA} {nm : Option Str}
variable {g : List Value → List Value → List Value} {gV : List V → List V → List V}
end
structure FnScope (N P : List Str) (sc : Scope) : Prop where
  kind : sc.kind = .function
  co : sc.isCoroutine = false
  gen : sc.isGenerator = false
  nd : N.Nodup
  pre : N.take P.length = P
  par : ∀ x ∈ P, sc.names.lookup x = some .local ∨ sc.names.lookup x = some .cell
  nofree : ∀ y ∈ sc.names, y.2 ≠ .free
theorem Yl {kindOf : Str → Option NameKind} {x : Str} : ∀ {binds : List (Str × Value)} {m : Str → Option Value}, (∀ v, (x, v) ∉ binds) → bindL kindOf binds m x = m x
  | [], _, _ => rfl
  | (n, v) :: r, m, h => by
    unfold bindL
    rw [Yl fun w hw => h w (List.mem_cons_of_mem _ hw)]
    split
    · have : x ≠ n := by rintro rfl; exact h v List.mem_cons_self
      simp [this]
    · rfl
theorem Ym {kindOf : Str → Option NameKind} {x : Str} : ∀ {binds : List (Str × Value)} {m : Str → Option Value}, (∀ v, (x, v) ∉ binds) → bindC kindOf binds m x = m x
  | [], _, _ => rfl
  | (n, v) :: r, m, h => by
    unfold bindC
    rw [Ym fun w hw => h w (List.mem_cons_of_mem _ hw)]
    split
    · rfl
    · have : x ≠ n := by rintro rfl; exact h v List.mem_cons_self
      simp [this]
theorem Yn {kindOf : Str → Option NameKind} {x : Str} {v : Value} : ∀ {P : List Str} {vs : List Value} {i : Nat} {m : Str → Option Value}, P.Nodup → P[i]? = some x → vs[i]? = some v → kindOf x = some .local →
    bindL kindOf (P.zip vs) m x = some v
  | [], _, _, _, _, h, _, _ => by simp at h
  | _ :: _, [], _, _, _, _, h, _ => by simp at h
  | p :: P, w :: vs, 0, m, nd, h1, h2, hk => by
    simp at h1 h2; subst h1; subst h2
    show bindL kindOf ((p, w) :: P.zip vs) m p = _
    unfold bindL
    rw [Yl fun v hv => (List.nodup_cons.mp nd).1 (List.of_mem_zip hv).1, if_pos hk]
    simp
  | p :: P, w :: vs, i + 1, m, nd, h1, h2, hk => by
    show bindL kindOf ((p, w) :: P.zip vs) m x = _
    unfold bindL
    exact Yn (i := i) (List.nodup_cons.mp nd).2 (by simpa using h1) (by simpa using h2) hk
theorem Yo {kindOf : Str → Option NameKind} {x : Str} {v : Value} : ∀ {P : List Str} {vs : List Value} {i : Nat} {m : Str → Option Value}, P.Nodup → P[i]? = some x → vs[i]? = some v → kindOf x ≠ some .local →
    bindC kindOf (P.zip vs) m x = some v
  | [], _, _, _, _, h, _, _ => by simp at h
  | _ :: _, [], _, _, _, _, h, _ => by simp at h
  | p :: P, w :: vs, 0, m, nd, h1, h2, hk => by
    simp at h1 h2; subst h1; subst h2
    show bindC kindOf ((p, w) :: P.zip vs) m p = _
    unfold bindC
    rw [Ym fun v hv => (List.nodup_cons.mp nd).1 (List.of_mem_zip hv).1, if_neg hk]
    simp
  | p :: P, w :: vs, i + 1, m, nd, h1, h2, hk => by
    show bindC kindOf ((p, w) :: P.zip vs) m x = _
    unfold bindC
    exact Yo (i := i) (List.nodup_cons.mp nd).2 (by simpa using h1) (by simpa using h2) hk
noncomputable def start (N : List Str) (vs : List V) : St := vs.map some ++ List.replicate (N.length - vs.length) none
noncomputable def uh (CX : CXT) (P : Program) (w : World) (K : PySem.W.Frag) (mg : Str → Option Value) (base : Heap) (N : List Str) (qual : Str) (scope : Scope) (f : Addr) (cd : Value) (A : Around) (outer : List Env) (s : Shared) (H : Hp) (E : XK) : Cx where
  prog := P
  w := w
  K := K
  mg := mg
  base := base
  A := A.deeper (envOfC qual scope s.heap.objs.size f cd)
  N := N
  s₀ := s
  H₀ := H
  env := envOfC qual scope s.heap.objs.size f cd
  outer := outer
  stack := envOfC qual scope s.heap.objs.size f cd :: outer
  ex := []
  calm := true
  fn := fun _ => true
  pn := []
  xe := fun e s' => wpAny (model P w) (A.deeper (envOfC qual scope s.heap.objs.size f cd)) (leaving (envOfC qual scope s.heap.objs.size f cd) e) (fun _ s'' => CX outer H s E e s'') (fun e' s'' => CX outer H s E e' s'') s'
theorem Xd {sc : Scope} {n : Nat} {x : Str} (h : sc.names.lookup x = some .cell) : ∃ c, (cellsFrom n sc.names []).lookup x = some c := by
  have q := PySem.W.cellsFrom_some sc.names n [] (.inl h)
  exact Option.isSome_iff_exists.mp q
theorem QP {CX : CXT} {P : Program} {w : World} {K : PySem.W.Frag} {mg : Str → Option Value} {base : Heap} {N ps : List Str} {qual : Str} {scope : Scope} {f : Addr} {cd : Value} {A : Around} {outer : List Env} {s s1 : Shared} {H : Hp} {E : XK} {us : List Value} {vs : List V}
    (S : FnScope N ps scope) (hd : A.handled = none) (e0 : Env0 P w K mg base A outer s H) (hl : vs.length = ps.length) (r : Vals vs us)
    (x : InCallC s s.heap.objs.size (bindL (envOfC qual scope s.heap.objs.size f cd).kindOf (ps.zip us) fun _ => none) (cellsFrom (s.heap.objs.size + 1) scope.names []) (bindC (envOfC qual scope s.heap.objs.size f cd).kindOf (ps.zip us) fun _ => none) s1) :
    Inv (uh CX P w K mg base N qual scope f cd A outer s H E) [] (start N vs) H s1 := by
  have hpl : ps.length ≤ N.length := by have := congrArg List.length S.pre; rw [List.length_take] at this; omega
  obtain ⟨h1, tk, rfl, hk⟩ := x.done
  have noA : ∀ b : Addr, b ∉ (uh CX P w K mg base N qual scope f cd A outer s H E).ex := fun b z => absurd (show b ∈ ([] : List Addr) from z) (by simp)
  refine ⟨⟨e0.mod, S.kind, rfl, rfl, Nat.le_refl _, fun y z c h1 h2 => ?_, fun y hy => ?_, fun y c _ h => ?_, fun _ => hd, Around.frames_deeper e0.frames, .inr ⟨rfl, rfl⟩, fun b z => absurd z (noA b), e0.bs, e0.bsz, fun b _ _ => noA b, fun b z => absurd z (noA b), e0.funs, e0.frf⟩,
    rfl, e0.bare, Un.kept hk, ⟨_, x.toInCall.ns, fun i y v h1 h2 h3 => ?_⟩, fun y c h => ⟨_, x.cell y c h⟩, e0.hok.fresh (Nat.le_refl _), fun y c h => ?_, fun p hp => absurd (show p ∈ ([] : List (Addr × Obj)) from hp) (by simp), e0.hok.kept hk, ?_⟩
  · exact name_of_addr x.apart (PySem.mem_of_lookup h1) (PySem.mem_of_lookup h2)
  · have hy : scope.names.lookup y = some .cell ∨ scope.names.lookup y = some .free := hy
    rcases hy with hy | hy
    · exact Xd hy
    · exact absurd rfl (S.nofree _ (PySem.mem_of_lookup hy))
  · exact Nat.le_of_lt (x.above y c (PySem.mem_of_lookup h))
  · have hi : i < vs.length := by
      unfold start at h2
      by_cases hi : i < vs.length
      · exact hi
      · rw [List.getElem?_append_right (by simpa using hi)] at h2
        rw [List.getElem?_replicate] at h2
        split at h2 <;> cases h2
    have ha : vs[i]? = some v := by
      unfold start at h2
      rw [List.getElem?_append_left (by simpa using hi), List.getElem?_map] at h2
      cases e : vs[i]? with
      | none => rw [e] at h2; cases h2
      | some a => rw [e] at h2; cases h2; rfl
    obtain ⟨u, hu, rv⟩ := r.get ha
    have hp : ps[i]? = some y := by
      rw [← S.pre, List.getElem?_take_of_lt (by omega)]; exact h1
    have ndP : ps.Nodup := by rw [← S.pre]; exact S.nd.sublist (List.take_sublist _ _)
    refine ⟨u, rv, ?_⟩
    rcases S.par y (List.mem_of_getElem? hp) with k | k
    · exact .inl ⟨k, Yn ndP hp hu k⟩
    · obtain ⟨c, e⟩ := Xd (n := s.heap.objs.size + 1) k
      refine .inr ⟨.inl k, c, e, ?_⟩
      have q := x.cell y c e
      rw [Yo ndP hp hu (by show scope.names.lookup y ≠ _; rw [k]; decide)] at q
      exact q
  · exact e0.hok.fresh (Nat.le_of_lt (x.above y c (PySem.mem_of_lookup h)))
  · unfold start
    show _ = N.length
    rw [List.length_append, List.length_map, List.length_replicate]
    omega
theorem zac {CX : CXT} {P : Program} {w : World} {K : PySem.W.Frag} {mg : Str → Option Value} {base : Heap} {k : Nat} {f : Addr} {name qual : Str} {params : Arguments} {body : List Stmt} {scope : Scope} {dV kV doc pm cdv ct oc : Value} {an od : Option Addr}
    {osl : Array (Option Value)} {N ps : List Str} {sp : Sp} (lk : K.lookup f = some ⟨oc, od, .func (PySem.W.fnOf name qual params body scope dV kV doc pm an cdv ct), osl⟩) (hcd : PySem.W.codeIn K cdv qual = true) (S : FnScope N ps scope)
    (len : ∀ vs H Q E, sp vs H Q E → vs.length = ps.length)
    (hbody : ∀ (A : Around) (outer : List Env) (s : Shared) (H : Hp) (vs : List V) (Q : VK) (E : XK), Room k (A.deeper (envOfC qual scope s.heap.objs.size f cdv)) → sp vs H Q E →
      ∃ t, PSs (uh CX P w K mg base N qual scope f cdv A outer s H E) body t ∧ t { nx := fun _ H' => Q .non H', rt := Q } (start N vs) H) :
    FnOk P w K mg base CX (k + 1) f (PySem.W.fnOf name qual params body scope dV kV doc pm an cdv ct) ps sp := by
  refine ⟨len, fun A outer s H args us vs Q E hr e0 hb r hsp => ?_⟩
  have hl := len _ _ _ _ hsp
  have KX : K.In s.heap := e0.mod.kin.keeps fun b o e => (e0.bs b o e).1
  have lim : s.heap.NoLimit := e0.mod.nolimit.keeps fun b o e => (e0.bs b o e).1
  have hkind : ∀ y ∈ ps.zip us, scope.names.lookup y.1 = some .local ∨ (scope.names.lookup y.1 = some .cell ∧ ((cellsFrom (s.heap.objs.size + 1) scope.names []).lookup y.1).isSome = true) := fun ⟨n, v⟩ hy => by
    rcases S.par n (List.of_mem_zip hy).1 with q | q
    · exact .inl q
    · exact .inr ⟨q, PySem.W.cellsFrom_some _ _ _ (.inl q)⟩
  refine codeAny_call_function hr.depth (KX _ _ lk) rfl S.co S.gen rfl (PySem.W.codeRec_of KX hcd) (hb _ _ _ _ ?_)
  refine wpAny_newFunctionEnv_cells S.kind hkind fun env he s1 x => ?_
  subst he
  refine ⟨lim.keeps x.toInCall.keep, codeAny_func ?_⟩
  obtain ⟨t, ht, hq⟩ := hbody A outer s H vs Q E (hr.deeper _) hsp
  have I : Inv (uh CX P w K mg base N qual scope f cdv A outer s H E) [] (start N vs) H s1 := QP S hr.hd e0 hl r x
  refine wpAny_mono (ht [] s1 (start N vs) H _ I hq) (fun fl s' hs => ?_) fun e s' hs => hs
  have fin : ∀ {σ' : St} {H' : Hp} {v : V} {u : Value}, Inv (uh CX P w K mg base N qual scope f cdv A outer s H E) [] σ' H' s' → RelV v u → Q v H' → CE outer P w H s Q u s' :=
    fun {σ' H' v u} J rv q => ⟨v, H', J.os, J.bare, J.base, J.hok, rv, q⟩
  cases fl with
  | ret u =>
    obtain ⟨v, σ', H', J, rv, q⟩ := hs
    exact fin J rv q
  | next =>
    obtain ⟨σ', H', J, q⟩ := hs
    exact fin (v := V.non) (u := Value.none) J rfl q
  | brk =>
    obtain ⟨_, _, _, q⟩ := hs
    exact False.elim q
  | cont =>
    obtain ⟨_, _, _, q⟩ := hs
    exact False.elim q
end L2
namespace L2
open PySem PySem.Spec PyProof.Rows
section
variable {X : Cx} {x : Str} {p pos : Pos} {e : Expr} {es : List Expr} {t : TA} {id T : String} {r : List V → Hp → VK → Prop}
noncomputable def tCB (r : List V → Hp → VK → Prop) (t : TA) : TE := fun σ H Q => t σ H fun vs H1 => r vs H1 Q
theorem yU (hc : y9 X (.builtin id) r) (hg : Gl X x) (hm : X.mg x = none) (hv : bootBuiltins x = some (.builtin id)) (ha : PA X (e :: es) t) (hn : x ≠ "__name__" := by decide) (hdb : (x == ("__debug__" : Str)) = false := by decide)
    (he : starEach (e :: es) X.env = (false, eval e X.env) :: starEach es X.env := by rfl) (hpl : (backTo pos (starEach es X.env)).any (·.1) = false := by rfl) : PE X (.Call (.Name x p) (e :: es) [] pos) (tCB r t) := by
  intro pins s σ H Q I h
  refine wpAny_Call_Name_kw (uy I hg hm hv ?_ hn hdb)
  exact PyProof.Rows.callWith_builtin1 (thn (ha pos pins s σ H _ I h) fun us s1 ⟨vs, H1, I1, r1, q1⟩ => hc pins s1 σ H1 vs us Q I1 r1 q1) he hpl
theorem xQ (hc : y9 X (.type T) r) (hg : Gl X x) (hm : X.mg x = none) (hv : bootBuiltins x = some (.type T)) (ha : PA X (e :: es) t) (hn : x ≠ "__name__" := by decide) (hdb : (x == ("__debug__" : Str)) = false := by decide)
    (he : starEach (e :: es) X.env = (false, eval e X.env) :: starEach es X.env := by rfl) (hpl : (backTo pos (starEach es X.env)).any (·.1) = false := by rfl) : PE X (.Call (.Name x p) (e :: es) [] pos) (tCB r t) := by
  intro pins s σ H Q I h
  refine wpAny_Call_Name_kw (uy I hg hm hv ?_ hn hdb)
  exact PyProof.Rows.callWith_type1 (thn (ha pos pins s σ H _ I h) fun us s1 ⟨vs, H1, I1, r1, q1⟩ => hc pins s1 σ H1 vs us Q I1 r1 q1) he hpl
end
end L2
namespace HT
open PySem PyProof.Rows
section
open PySem.SeqAt
open PySem.AutoSeq1 (wpAny_loadPart')
open PySem.MeetsSeq PySem.MeetsSeq2 PySem.MeetsSeq3
end
section
variable {prog : Program} {w : World} {A : Around} {E : Value → Shared → Prop} {s : Shared}
theorem cat_tup {t b : Addr} {vs ws : List Value} {Q : Value → Shared → Prop} (ht : IsTup s.heap t vs.toArray) (hb : IsTup s.heap b ws.toArray) (hv : vs ≠ [])
    (h1 : ws = [] → Q (.ref t) s) (h2 : ws ≠ [] → Q (.ref s.heap.objs.size) { s with heap := s.heap.push { cls := .type "tuple", data := .seq (vs ++ ws).toArray } })
    (hsz : vs.length + ws.length ≤ sizeLine) : wpAny (model prog w) A (binaryOp .Add (.ref t) (.ref b)) Q E s := by
  obtain ⟨⟨cls, dd, data, sl⟩, ho, hc, n, hd⟩ := id ht
  obtain ⟨⟨cls2, dd2, data2, sl2⟩, ho2, hc2, n2, hd2⟩ := id hb
  simp only at hc hd hc2 hd2
  subst hc hd hc2 hd2
  have e : vs.toArray ++ ws.toArray = (vs ++ ws).toArray := by simp
  by_cases hw : ws = []
  · exact concat_meets ⟨_, ho, rfl⟩ ⟨_, ho2, rfl⟩ noFill_tuple_add seq_tuple_add PySem.F.slot_tuple_add PySem.F.entry_tuple_add (PySem.F.args_tuple_add_2 _ _)
      (tuple_addW1 t b vs.toArray ws.toArray n n2 dd dd2 sl sl2 (by simpa using hv) (by simp [hw])) ⟨ho, ho2, h1 hw⟩
  · refine concat_meets ⟨_, ho, rfl⟩ ⟨_, ho2, rfl⟩ noFill_tuple_add seq_tuple_add PySem.F.slot_tuple_add PySem.F.entry_tuple_add (PySem.F.args_tuple_add_2 _ _)
      (tuple_addW2 t b vs.toArray ws.toArray n n2 dd dd2 sl sl2 (by simpa using hv) (by simpa using hw) (by rw [List.size_toArray, List.size_toArray]; exact hsz)) ⟨ho, ho2, ?_⟩
    rw [e]
    exact h2 hw
noncomputable def sIx (n d : Nat) : Option Int → Nat
  | none => d
  | some v => if v < 0 then (v + (n : Int)).toNat else min v.toNat n
theorem sIx_none (n d : Nat) : sIx n d none = d := rfl
theorem sIx_nat (n d k : Nat) : sIx n d (some (k : Int)) = min k n := by
  show (if (k : Int) < 0 then ((k : Int) + (n : Int)).toNat else min (k : Int).toNat n) = min k n
  rw [if_neg (by omega), Int.toNat_natCast]
end
end HT
namespace L2
open PySem PySem.Spec PyProof.Rows
noncomputable abbrev TO := St → Hp → (Option Int → Hp → Prop) → Prop
noncomputable def PO (X : Cx) (e : Option Expr) (t : TO) : Prop :=
  ∀ (pins : List (Addr × Obj)) (s : Shared) (σ : St) (H : Hp) (Q : Option Int → Hp → Prop), Inv X pins σ H s → t σ H Q →
    wpAny (model X.prog X.w) X.A (evalPart e X.env) (fun u s' => ∃ o H', Inv X pins σ H' s' ∧ IsPart u o ∧ Q o H') X.xe s
noncomputable def VO : TO := fun _ H Q => Q none H
noncomputable def zad (t : TE) : TO := fun σ H Q => t σ H fun x H1 => ∃ i, x = .int i ∧ Q (some i) H1
section
variable {X : Cx} {e : Expr} {te : TE} {lo hi : Option Expr} {tl th : TO} {pos p2 : Pos}
theorem VP : PO X none VO := by
  intro pins s σ H Q I h
  rw [evalPart_none]
  exact wpAny_pure ⟨none, H, I, .none, h⟩
theorem VQ (h : PE X e te) : PO X (some e) (zad te) := by
  intro pins s σ H Q I hw
  rw [evalPart_some]
  refine thn (h pins s σ H _ I hw) fun u s1 ⟨x, H1, I1, r1, q1⟩ => ?_
  obtain ⟨i, rfl, q⟩ := q1
  obtain ⟨t, rfl⟩ := r1
  exact ⟨some i, H1, I1, .int i t, q⟩
noncomputable def SlR (X : Cx) (r : V → Option Int → Option Int → Hp → VK → Prop) : Prop :=
  ∀ (pins : List (Addr × Obj)) (s : Shared) (σ : St) (H : Hp) (x : V) (v vl vu : Value) (lo hi : Option Int) (sl : Addr) (Q : VK), Inv X pins σ H s → RelV x v → s.heap.IsSliceOf sl vl vu .none → IsPart vl lo → IsPart vu hi → r x lo hi H Q →
    ∃ T id, typeLookup (.type T) "__getitem__" = pure (some (.builtin id)) ∧ s.TypeIs v T ∧ wpAny (model X.prog X.w) X.A (getItem v (.ref sl)) (EP X pins σ Q) X.xe s
theorem SlR.or {r r' : V → Option Int → Option Int → Hp → VK → Prop} (h : SlR X r) (h' : SlR X r') : SlR X (fun x lo hi H Q => r x lo hi H Q ∨ r' x lo hi H Q) := by
  intro pins s σ H x v vl vu lo hi sl Q I rx hs pl pu q
  rcases q with q | q
  · exact h pins s σ H x v vl vu lo hi sl Q I rx hs pl pu q
  · exact h' pins s σ H x v vl vu lo hi sl Q I rx hs pl pu q
noncomputable def tSl (r : V → Option Int → Option Int → Hp → VK → Prop) (te : TE) (tl th : TO) : TE := fun σ H Q => te σ H fun x H1 => tl σ H1 fun l H2 => th σ H2 fun u H3 => r x l u H3 Q
theorem Xe {r : V → Option Int → Option Int → Hp → VK → Prop} (hr : SlR X r) (he : PE X e te) (hl : PO X lo tl) (hu : PO X hi th) : PE X (.Subscript e (.Slice lo hi none p2) pos) (tSl r te tl th) := by
  intro pins s σ H Q I h
  refine Subscript_ (thn (he pins s σ H _ I h) fun v s1 ⟨x, H1, I1, r1, q1⟩ => ?_)
  refine wpAny_Slice (thn (hl pins s1 σ H1 _ I1 q1) fun vl s2 ⟨l, H2, I2, pl, q2⟩ => thn (hu pins s2 σ H2 _ I2 q2) fun vu s3 ⟨u, H3, I3, pu, q3⟩ => ?_)
  rw [evalPart_none]
  refine wpAny_pure ?_
  have I4 : Inv X pins σ H3 { s3 with heap := s3.heap.push { cls := .type "slice", data := .fields #[vl, vu, .none] } } := I3.kept (t' := s3.toks) fun b ob q => Heap.get?_push_of_some _ q
  obtain ⟨T, id, hT, ht, hg⟩ := hr pins { s3 with heap := s3.heap.push { cls := .type "slice", data := .fields #[vl, vu, .none] } } σ H3 x v vl vu l u s3.heap.objs.size Q I4 r1 (Heap.IsSliceOf.new ..) pl pu q3
  show wpAny (model X.prog X.w) X.A (subscriptTail e (.Slice lo hi none p2) v (.ref s3.heap.objs.size)) (EP X pins σ Q) X.xe { s3 with heap := s3.heap.push { cls := .type "slice", data := .fields #[vl, vu, .none] } }
  exact tail_any (ops := [.ref s3.heap.objs.size, v]) ht hT hg (by with_unfolding_all rfl)
noncomputable def ZU (xs : List V) (lo hi : Option Int) : List V := (xs.drop (HT.sIx xs.length 0 lo)).take (HT.sIx xs.length xs.length hi - HT.sIx xs.length 0 lo)
theorem Vo (xs : List V) (lo hi : Option Int) : (ZU xs lo hi).length ≤ xs.length := by
  unfold ZU
  rw [List.length_take, List.length_drop]
  omega
noncomputable def UA (K : PySem.W.Frag) : R2 := fun x y H Q => ∃ a b xs ys, x = .ref a ∧ y = .ref b ∧ SqT K H a xs ∧ SqT K H b ys ∧ xs ≠ [] ∧ xs.length + ys.length ≤ sizeLine ∧
  (ys = [] → Q (.ref a) H) ∧ (ys ≠ [] → ∀ p, H p = none → Q (.ref p) (upd H p (.tup (xs ++ ys))))
theorem Vals.nil_iff {xs : List V} {us : List Value} (r : Vals xs us) : us = [] ↔ xs = [] := by
  cases r with
  | nil => simp
  | cons _ _ => simp
theorem za4 : OpR X (binaryOp .Add) (UA X.K) := by
  intro pins s σ H x y v u Q I rx ry h
  obtain ⟨a, b, xs, ys, rfl, rfl, ha, hb, hx, hz, q1, q2⟩ := h
  cases rx
  cases ry
  obtain ⟨its, r1, p1, _⟩ := I.tuple ha
  obtain ⟨its2, r2, p2, _⟩ := I.tuple hb
  refine HT.cat_tup p1 p2 (fun z => hx (r1.nil_iff.mp z)) (fun z => ⟨.ref a, H, I, rfl, q1 (r2.nil_iff.mp z)⟩) (fun z => ?_) (by rw [← r1.length, ← r2.length]; exact hz)
  refine ⟨.ref s.heap.objs.size, _, I.laid (t' := s.toks) (o := .tup (xs ++ ys)) (fun b ob q => Heap.get?_push_of_some _ q) (Nat.le_refl _) ?_, rfl, q2 (fun w => z (r2.nil_iff.mpr w)) _ (I.hok.fresh (Nat.le_refl _))⟩
  exact ⟨by rw [List.length_append]; exact hz, _, r1.append r2, IsTup.new _ _⟩
end
end L2
namespace L2
open PySem PySem.Spec PyProof.Rows
noncomputable def ixN (n : Nat) (i : Int) : Option Nat := if 0 ≤ i then (if i < n then some i.toNat else none) else if -(n : Int) ≤ i then some (i + n).toNat else none
noncomputable def atI {α : Type} (xs : List α) (i : Int) : Option α := (ixN xs.length i).bind fun j => xs[j]?
theorem VR {n : Nat} {i : Int} {j : Nat} (h : ixN n i = some j) : seqIndex? i n = some j ∧ j < n ∧ -(n : Int) ≤ i ∧ i < n := by
  unfold ixN at h
  by_cases h0 : 0 ≤ i
  · rw [if_pos h0] at h
    by_cases h1 : i < n
    · rw [if_pos h1] at h
      have e : i.toNat = j := Option.some.inj h
      exact ⟨by rw [seqIndex_of h0 h1, e], by omega, by omega, h1⟩
    · rw [if_neg h1] at h; cases h
  · rw [if_neg h0] at h
    by_cases h1 : -(n : Int) ≤ i
    · rw [if_pos h1] at h
      have e : (i + n).toNat = j := Option.some.inj h
      exact ⟨by rw [seqIndex_neg (by omega) h1, e], by omega, h1, by omega⟩
    · rw [if_neg h1] at h; cases h
theorem ZV {α : Type} {xs : List α} {i : Int} {v : α} (h : atI xs i = some v) : ∃ j, seqIndex? i xs.length = some j ∧ xs[j]? = some v ∧ j < xs.length ∧ -(xs.length : Int) ≤ i ∧ i < xs.length := by
  unfold atI at h
  cases e : ixN xs.length i with
  | none => rw [e] at h; cases h
  | some j =>
    rw [e] at h
    obtain ⟨h1, h2, h3, h4⟩ := VR e
    exact ⟨j, h1, h, h2, h3, h4⟩
theorem vN {α : Type} {xs : List α} {j : Nat} {v : α} (h : xs[j]? = some v) : atI xs (j : Int) = some v := by
  have hj : j < xs.length := (List.getElem?_eq_some_iff.mp h).1
  have e : ixN xs.length (j : Int) = some j := by
    unfold ixN
    rw [if_pos (by omega), if_pos (by omega)]; simp
  unfold atI; rw [e]; exact h
noncomputable def za5 (b : Expr) : Prop := ∀ o i, subscripted b false o i = operate [o, i] (getItem o i)
noncomputable def IxR (X : Cx) (r : R2) : Prop :=
  ∀ (value slice : Expr) (pins : List (Addr × Obj)) (s : Shared) (σ : St) (H : Hp) (x y : V) (v u : Value) (Q : VK), Inv X pins σ H s → RelV x v → RelV y u → r x y H Q →
    subscripted slice false v u = operate [v, u] (getItem v u) → wpAny (model X.prog X.w) X.A (subscriptTail value slice v u) (EP X pins σ Q) X.xe s
noncomputable def MtR (X : Cx) (id : String) (r : V → List V → Hp → VK → Prop) : Prop :=
  ∀ (pins : List (Addr × Obj)) (s : Shared) (σ : St) (H : Hp) (x : V) (xs : List V) (v : Value) (us : List Value) (Q : VK), Inv X pins σ H s → RelV x v → Vals xs us → r x xs H Q →
    wpAny (model X.prog X.w) X.A (call (.builtin id) (v :: us)) (EP X pins σ Q) X.xe s
section
variable {X : Cx} {a b : Expr} {ta tb : TE} {pos : Pos}
theorem IxR.or {r r' : R2} (h : IxR X r) (h' : IxR X r') : IxR X (fun x y H Q => r x y H Q ∨ r' x y H Q) := by
  intro value slice pins s σ H x y v u Q I rx ry q hs
  rcases q with q | q
  · exact h value slice pins s σ H x y v u Q I rx ry q hs
  · exact h' value slice pins s σ H x y v u Q I rx ry q hs
theorem MtR.or {id : String} {r r' : V → List V → Hp → VK → Prop} (h : MtR X id r) (h' : MtR X id r') : MtR X id (fun x xs H Q => r x xs H Q ∨ r' x xs H Q) := by
  intro pins s σ H x xs v us Q I rx rs q
  rcases q with q | q
  · exact h pins s σ H x xs v us Q I rx rs q
  · exact h' pins s σ H x xs v us Q I rx rs q
theorem yN {r : R2} (hr : IxR X r) (ha : PE X a ta) (hb : PE X b tb) (hs : za5 b) : PE X (.Subscript a b pos) (tOp r ta tb) := by
  intro pins s σ H Q I h
  exact Subscript_ (JM ha hb I h fun v u s2 x y H2 I2 rx ry q => hr a b pins s2 σ H2 x y v u Q I2 rx ry q (hs _ _))
noncomputable def UB (K : PySem.W.Frag) : R2 := fun x y H Q => ∃ p xs i v, x = .ref p ∧ y = .int i ∧ SqL K H p xs ∧ atI xs i = some v ∧ Q v H
noncomputable def JV (K : PySem.W.Frag) : R2 := fun x y H Q => ∃ p xs i v, x = .ref p ∧ y = .int i ∧ SqT K H p xs ∧ atI xs i = some v ∧ Q v H
noncomputable def zcl : R2 := fun x y H Q => ∃ z i c, x = .str z ∧ y = .int i ∧ z.length ≤ sizeLine ∧ atI z.cps.toList i = some c ∧ Q (.str ⟨#[c]⟩) H
theorem za6 : IxR X (UB X.K) := by
  intro value slice pins s σ H x y v u Q I rx ry h hs
  obtain ⟨p, xs, i, z, rfl, rfl, hq, he, q⟩ := h
  cases rx
  obtain ⟨t, rfl⟩ := ry
  obtain ⟨its, r, pl, hz⟩ := I.list hq
  obtain ⟨j, h1, h2, h3, h4, h5⟩ := ZV he
  obtain ⟨w, ew, rw'⟩ := r.get h2
  have hl := r.length
  have hn := uz
  have fin : EP X pins σ Q w s := ⟨z, H, I, rw', q⟩
  by_cases h0 : 0 ≤ i
  · have hj : i.toNat = j := by
      rw [seqIndex_of h0 h5] at h1
      exact Option.some.inj h1
    exact item_listR pl.isList h0 (by omega) (by rw [hj]; simpa using ew) fin hs
  · have hj : (i + (its.toArray.size : Int)).toNat = j := by
      rw [seqIndex_neg (by omega) h4] at h1
      rw [List.size_toArray, ← hl]
      exact Option.some.inj h1
    exact subscriptTail_builtinR (x := w) pl.isList.typeIs slot_list_getitem.lookup
      (wpAny_getItem_list_neg (Q := fun r s' => r = w ∧ EP X pins σ Q r s') pl.isList (by omega) (by rw [List.size_toArray] <;> omega) (by omega) (by rw [hj]; simpa using ew) ⟨rfl, fin⟩) hs
theorem zcm : IxR X (JV X.K) := by
  intro value slice pins s σ H x y v u Q I rx ry h hs
  obtain ⟨p, xs, i, z, rfl, rfl, hq, he, q⟩ := h
  cases rx
  obtain ⟨t, rfl⟩ := ry
  obtain ⟨its, r, pl, hz⟩ := I.tuple hq
  obtain ⟨j, h1, h2, h3, h4, h5⟩ := ZV he
  obtain ⟨w, ew, rw'⟩ := r.get h2
  have hl := r.length
  have hn := uz
  have fin : EP X pins σ Q w s := ⟨z, H, I, rw', q⟩
  exact subscriptTail_builtinR (x := w) pl.typeIs slot_tuple_getitem.lookup
    (getItem_tuple (j := j) (Q := fun r s' => r = w ∧ EP X pins σ Q r s') pl (by omega) (by omega) (by rw [List.size_toArray, ← hl]; exact h1) (by simpa using ew) ⟨rfl, fin⟩) hs
theorem QQ : IxR X zcl := by
  intro value slice pins s σ H x y v u Q I rx ry h hs
  obtain ⟨z, i, c, rfl, rfl, hz, he, q⟩ := h
  obtain ⟨t, rfl⟩ := rx
  obtain ⟨t', rfl⟩ := ry
  obtain ⟨j, h1, h2, h3, h4, h5⟩ := ZV he
  have hl : z.cps.toList.length = z.length := by simp [Str.length]
  rw [hl] at h1 h4 h5
  have hn := uz
  exact tail_any (typeIs_str s z t) slot_str_getitem.lookup (getItem_str (c := c) (by
    have e1 : decide (i < -(2 ^ 63 : Int)) = false := decide_eq_false (by omega)
    have e2 : decide (i ≥ 2 ^ 63) = false := decide_eq_false (by omega)
    rw [e1, e2, Bool.or_false]) (by rw [h1]; simpa using h2) ⟨.str ⟨#[c]⟩, H, I.tok _, ⟨_, rfl⟩, q⟩) hs
theorem UC (its : List Value) (n j : Nat) (u : Value) : Obj.mapSeq (·.setIfInBounds j u) { cls := .type "list", data := .seq its.toArray n } = { cls := .type "list", data := .seq (its.set j u).toArray n } := by
  simp [Obj.mapSeq]
theorem Inv.lst {pins : List (Addr × Obj)} {σ : St} {H : Hp} {s : Shared} {p : Addr} {xs : List V} (I : Inv X pins σ H s) (h : H p = some (.lst xs)) :
    ∃ (its : List Value) (n : Nat), Vals xs its ∧ s.heap.get? p = some { cls := .type "list", data := .seq its.toArray n } ∧ xs.length ≤ sizeLine := by
  obtain ⟨z, its, n, r, e⟩ := I.hok p _ h
  exact ⟨its, n, r, e, z⟩
theorem Inv.lstUpd {pins : List (Addr × Obj)} {σ : St} {H : Hp} {s : Shared} {p : Addr} {xs ys : List V} {its its' : List Value} {n n' : Nat} {f : Obj → Obj} (I : Inv X pins σ H s) (h : H p = some (.lst xs))
    (ho : s.heap.get? p = some { cls := .type "list", data := .seq its.toArray n }) (hf : f { cls := .type "list", data := .seq its.toArray n } = { cls := .type "list", data := .seq its'.toArray n' }) (r : Vals ys its') (hz : ys.length ≤ sizeLine) (t : Nat) :
    Inv X pins σ (upd H p (.lst ys)) { s with heap := s.heap.update p f, toks := t } := by
  have e : (s.heap.update p f).get? p = some { cls := .type "list", data := .seq its'.toArray n' } := by
    rw [Heap.get?_update_self f ho (by rw [hf] <;> rfl), hf]
  refine I.write (x := p) (e := p) (by rw [h]; trivial) (.inl rfl) (fun b u hb q => (Heap.get?_update_other _ _ (Ne.symm hb)).trans q) ⟨_, e⟩ ?_
  exact ⟨hz, its', n', r, e⟩
noncomputable def UD : V → V → V → Hp → (Hp → Prop) → Prop := fun o i v H Q => ∃ p xs k j, o = .ref p ∧ i = .int k ∧ H p = some (.lst xs) ∧ ixN xs.length k = some j ∧ Q (upd H p (.lst (xs.set j v)))
theorem xT : zb8 X UD := by
  intro pins s σ H o i v ov iv u Q I ro ri rv h
  obtain ⟨p, xs, k, j, rfl, rfl, hp, hj, q⟩ := h
  cases ro
  obtain ⟨t, rfl⟩ := ri
  obtain ⟨its, n, r, ho, hz⟩ := I.lst hp
  obtain ⟨h1, h2, h3, h4⟩ := VR hj
  have hl := r.length
  have hn := uz
  have I' : Inv X pins σ (upd H p (.lst (xs.set j v))) { s with heap := s.heap.update p (Obj.mapSeq (·.setIfInBounds j u)) } :=
    I.lstUpd hp ho (UC its n j u) (r.set rv j) (by rw [List.length_set]; exact hz) s.toks
  by_cases h0 : 0 ≤ k
  · have hk : k.toNat = j := by
      rw [seqIndex_of h0 h4] at h1
      exact Option.some.inj h1
    exact PySem.W.ki_setAt ho h0 (by omega) (by rw [List.size_toArray, ← hl]; exact h4) (by rw [hk]; exact ⟨_, I', q⟩)
  · have hk : (k + (its.toArray.size : Int)).toNat = j := by
      rw [seqIndex_neg (by omega) h3] at h1
      rw [List.size_toArray, ← hl]
      exact Option.some.inj h1
    exact PySem.W.ki_setBack ho (by omega) (by rw [List.size_toArray, ← hl]; exact h3) (by omega) (by rw [hk]; exact ⟨_, I', q⟩)
theorem Xf (lo hi : Option Int) (n : Nat) : (sliceBounds lo hi none n).1 = ((HT.sIx n 0 lo : Nat) : Int) ∧ (sliceBounds lo hi none n).2.1 = ((HT.sIx n n hi : Nat) : Int) ∧ (sliceBounds lo hi none n).2.2 = 1 := by
  refine ⟨?_, ?_, rfl⟩
  · cases lo with
    | none => simp [sliceBounds, HT.sIx]
    | some i =>
      simp only [sliceBounds, HT.sIx, Option.getD_none, show (1 : Int) > 0 by decide, if_true]
      by_cases h : i < 0
      · simp only [h, if_true] <;> omega
      · simp only [h, if_false] <;> omega
  · cases hi with
    | none => simp [sliceBounds, HT.sIx]
    | some i =>
      simp only [sliceBounds, HT.sIx, Option.getD_none, show (1 : Int) > 0 by decide, if_true]
      by_cases h : i < 0
      · simp only [h, if_true] <;> omega
      · simp only [h, if_false] <;> omega
theorem YB (its : List Value) (lo hi : Option Int) : slicePick its.toArray lo hi none = ((its.drop (HT.sIx its.length 0 lo)).take (HT.sIx its.length its.length hi - HT.sIx its.length 0 lo)).toArray := by
  obtain ⟨h1, h2, h3⟩ := Xf lo hi its.toArray.size
  unfold slicePick
  rw [h1, h2, h3]
  simp only [sliceRange_one, pick_run, List.size_toArray] <;> rfl
noncomputable def JW (K : PySem.W.Frag) : V → Option Int → Option Int → Hp → VK → Prop := fun x lo hi H Q => ∃ a xs, x = .ref a ∧ SqL K H a xs ∧ ∀ p, H p = none → Q (.ref p) (upd H p (.lst (ZU xs lo hi)))
theorem za7 : SlR X (JW X.K) := by
  intro pins s σ H x v vl vu lo hi sl Q I rx hs pl pu h
  obtain ⟨a, xs, rfl, hx, q⟩ := h
  cases rx
  obtain ⟨its, r, ht, hz⟩ := I.list hx
  have hlen := r.length
  refine ⟨"list", _, slot_list_getitem.lookup, ht.isList.typeIs, ?_⟩
  refine wpAny_getItem_list_slice ht.isList hs pl pu .none (by simp) ?_ (by rw [List.size_toArray] <;> omega)
  rw [YB, ← hlen]
  refine ⟨.ref s.heap.objs.size, _, I.laid (t' := s.toks) (o := .lst (ZU xs lo hi)) (fun b ob q => Heap.get?_push_of_some _ q) (Nat.le_refl _) ?_, rfl, q _ (I.hok.fresh (Nat.le_refl _))⟩
  exact ⟨Nat.le_trans (Vo xs lo hi) hz, _, 0, (r.drop (HT.sIx xs.length 0 lo)).take (HT.sIx xs.length xs.length hi - HT.sIx xs.length 0 lo), Heap.get?_push_size _ rfl⟩
noncomputable def uq : V → Bool
  | .non => true
  | .bl _ => true
  | .int _ => true
  | .str _ => true
  | _ => false
noncomputable def eqV : V → V → Bool
  | .non, .non => true
  | .bl a, .bl b => a == b
  | .bl a, .int b => (if a then 1 else 0) == b
  | .int a, .bl b => a == (if b then 1 else 0)
  | .int a, .int b => a == b
  | .str a, .str b => a == b
  | _, _ => false
theorem zcn {A : Around} {s : Shared} {y x : V} {u v : Value} (ry : RelV y u) (rx : RelV x v) (fy : uq y = true) (fx : uq x = true) : SeqAt.EqAt A s u v (eqV y x) := by
  cases y with
  | non =>
    cases ry
    cases x with
    | non => cases rx; exact SeqAt.EqAt.same _
    | bl b => cases rx; exact SeqAt.EqAt.none_bool b
    | int b => obtain ⟨t, rfl⟩ := rx; exact SeqAt.EqAt.none_int b t
    | str b => obtain ⟨t, rfl⟩ := rx; exact SeqAt.EqAt.none_str b t
    | _ => exact absurd (show false = true from fx) Bool.false_ne_true
  | bl a =>
    cases ry
    cases x with
    | non => cases rx; exact SeqAt.EqAt.bool_none a
    | bl b => cases rx; exact SeqAt.EqAt.bool_bool a b
    | int b => obtain ⟨t, rfl⟩ := rx; exact SeqAt.EqAt.bool_int a b t
    | str b => obtain ⟨t, rfl⟩ := rx; exact SeqAt.EqAt.bool_str a b t
    | _ => exact absurd (show false = true from fx) Bool.false_ne_true
  | int a =>
    obtain ⟨t', rfl⟩ := ry
    cases x with
    | non => cases rx; exact SeqAt.EqAt.int_none a t'
    | bl b => cases rx; exact SeqAt.EqAt.int_bool a t' b
    | int b => obtain ⟨t, rfl⟩ := rx; exact SeqAt.EqAt.int_int a t' b t
    | str b => obtain ⟨t, rfl⟩ := rx; exact SeqAt.EqAt.int_str a t' b t
    | _ => exact absurd (show false = true from fx) Bool.false_ne_true
  | str a =>
    obtain ⟨t', rfl⟩ := ry
    cases x with
    | non => cases rx; exact SeqAt.EqAt.str_none a t'
    | bl b => cases rx; exact SeqAt.EqAt.str_bool a t' b
    | int b => obtain ⟨t, rfl⟩ := rx; exact SeqAt.EqAt.str_int a t' b t
    | str b => obtain ⟨t, rfl⟩ := rx; exact SeqAt.EqAt.str_str a t' b t
    | _ => exact absurd (show false = true from fx) Bool.false_ne_true
  | _ => exact absurd (show false = true from fy) Bool.false_ne_true
noncomputable def eqU (x : V) (u : Value) : Bool := match u with
  | .none => eqV .non x
  | .bool b => eqV (.bl b) x
  | .int i _ => eqV (.int i) x
  | .str z _ => eqV (.str z) x
  | _ => false
theorem QR {x y : V} {u : Value} (r : RelV y u) (f : uq y = true) : eqU x u = eqV y x := by
  cases y with
  | non => cases r; rfl
  | bl b => cases r; rfl
  | int i => obtain ⟨t, rfl⟩ := r; rfl
  | str z => obtain ⟨t, rfl⟩ := r; rfl
  | _ => exact absurd (show false = true from f) Bool.false_ne_true
theorem ZW {x : V} : ∀ {xs : List V} {us : List Value}, Vals xs us → xs.all uq = true → us.any (eqU x) = xs.any fun y => eqV y x
  | _, _, .nil, _ => rfl
  | y :: xs, u :: us, .cons r t, f => by
    rw [List.all_cons, Bool.and_eq_true] at f
    rw [List.any_cons, List.any_cons, QR r f.1, ZW t f.2]
theorem kA {A : Around} {s : Shared} {x : V} {v : Value} (rx : RelV x v) (fx : uq x = true) : ∀ {xs : List V} {us : List Value}, Vals xs us → xs.all uq = true → ∀ u ∈ us, SeqAt.EqAt A s u v (eqU x u)
  | _, _, .nil, _ => fun u hu => by cases hu
  | y :: xs, u :: us, .cons r t, f => fun u' hu => by
    rw [List.all_cons, Bool.and_eq_true] at f
    rcases List.mem_cons.mp hu with rfl | hu
    · rw [QR r f.1]; exact zcn r rx f.1 fx
    · exact kA rx fx t f.2 u' hu
noncomputable def inV (x : V) (xs : List V) : Bool := xs.any fun y => eqV y x
noncomputable def rIn (K : PySem.W.Frag) (neg : Bool) : R2 := fun x y H Q => ∃ p xs, y = .ref p ∧ (SqL K H p xs ∨ SqT K H p xs) ∧ uq x = true ∧ xs.all uq = true ∧ Q (.bl (if neg then !inV x xs else inV x xs)) H
theorem QS : OpR X (compareOp .In) (rIn X.K false) := by
  intro pins s σ H x y v u Q I rx ry h
  obtain ⟨p, xs, rfl, hq, fx, fs, q⟩ := h
  cases ry
  rcases hq with hq | hq
  · obtain ⟨its, r, pl, hz⟩ := I.list hq
    refine SeqAt.in_listAt (eqU x) pl.isList (fun w hw => kA rx fx r fs w (by simpa using hw)) ⟨.bl _, H, I, rfl, ?_⟩
    rw [show its.toArray.any (eqU x) = its.any (eqU x) by simp, ZW r fs]
    exact q
  · obtain ⟨its, r, pl, hz⟩ := I.tuple hq
    refine SeqAt.in_tupleAt (eqU x) pl (fun w hw => kA rx fx r fs w (by simpa using hw)) ⟨.bl _, H, I, rfl, ?_⟩
    rw [show its.toArray.any (eqU x) = its.any (eqU x) by simp, ZW r fs]
    exact q
theorem Xg : y9 X (.builtin "len") (fun xs H Q => ∃ p ys, xs = [.ref p] ∧ (SqL X.K H p ys ∨ SqT X.K H p ys) ∧ Q (.int ys.length) H) := by
  intro pins s σ H xs us Q I r h
  obtain ⟨p, ys, rfl, hq, q⟩ := h
  obtain ⟨u, rfl, rx⟩ := jY r
  cases rx
  have hn := uz
  rcases hq with hq | hq
  · obtain ⟨its, r', pl, hz⟩ := I.list hq
    have hlen := r'.length
    exact Calls.call_len_list pl.isList (by simp only [List.size_toArray] <;> omega) ⟨.int ys.length, H, I.tok _, ⟨s.toks + 1, by rw [List.size_toArray, hlen]⟩, q⟩
  · obtain ⟨its, r', pl, hz⟩ := I.tuple hq
    have hlen := r'.length
    exact len_tuple pl (by simp only [List.size_toArray] <;> omega) ⟨.int ys.length, H, I.tok _, ⟨s.toks + 1, by rw [List.size_toArray, hlen]⟩, q⟩
theorem jr : y9 X (.builtin "len") (fun xs H Q => ∃ z, xs = [.str z] ∧ z.length ≤ sizeLine ∧ Q (.int z.length) H) := by
  intro pins s σ H xs us Q I r h
  obtain ⟨z, rfl, hz, q⟩ := h
  obtain ⟨u, rfl, t, rfl⟩ := jY r
  have hn := uz
  exact len_str (by omega) ⟨.int z.length, H, I.tok _, ⟨_, rfl⟩, q⟩
theorem y9.or {f : Value} {r r' : List V → Hp → VK → Prop} (h : y9 X f r) (h' : y9 X f r') : y9 X f (fun xs H Q => r xs H Q ∨ r' xs H Q) := by
  intro pins s σ H xs us Q I rs q
  rcases q with q | q
  · exact h pins s σ H xs us Q I rs q
  · exact h' pins s σ H xs us Q I rs q
theorem Xh : y9 X (.type "list") (fun xs H Q => ∃ p ys, xs = [.ref p] ∧ (SqL X.K H p ys ∨ SqT X.K H p ys) ∧ ∀ l, H l = none → Q (.ref l) (upd H l (.lst ys))) := by
  intro pins s σ H xs us Q I r h
  obtain ⟨p, ys, rfl, hq, q⟩ := h
  obtain ⟨u, rfl, rx⟩ := jY r
  cases rx
  have fin : ∀ (its : List Value), Vals ys its → ys.length ≤ sizeLine → ∀ (h' : Heap) (c' : Nat), (∀ b o', s.heap.get? b = some o' → h'.get? b = some o') →
      h'.get? s.heap.objs.size = some { cls := .type "list", dict := none, data := .seq its.toArray c', slots := #[] } → EP X pins σ Q (.ref s.heap.objs.size) { s with heap := h' } := fun its r' hz h' c' kp e =>
    ⟨.ref s.heap.objs.size, _, I.laid (t' := s.toks) kp (Nat.le_refl _) (show yW X.prog X.w _ h' _ (.lst ys) from ⟨hz, its, c', r', e⟩), rfl, q _ (I.hok.fresh (Nat.le_refl _))⟩
  rcases hq with hq | hq
  · obtain ⟨its, r', pl, hz⟩ := I.list hq
    have hlen := r'.length
    obtain ⟨o, ho, hc, n, hd⟩ := pl.isList
    exact call_list_seq p (.inl rfl) ho hc hd (fun h' c' kp e => fin its r' hz h' c' kp e) (by simp only [List.size_toArray] <;> omega)
  · obtain ⟨its, r', pl, hz⟩ := I.tuple hq
    have hlen := r'.length
    obtain ⟨o, ho, hc, n, hd⟩ := pl
    exact call_list_seq p (.inr rfl) ho hc hd (fun h' c' kp e => fin its r' hz h' c' kp e) (by simp only [List.size_toArray] <;> omega)
theorem YC : y9 X (.type "tuple") (fun xs H Q => ∃ p ys, xs = [.ref p] ∧ ((SqL X.K H p ys ∧ ∀ l, H l = none → Q (.ref l) (upd H l (.tup ys))) ∨ (SqT X.K H p ys ∧ Q (.ref p) H))) := by
  intro pins s σ H xs us Q I r h
  obtain ⟨p, ys, rfl, h⟩ := h
  obtain ⟨u, rfl, rx⟩ := jY r
  cases rx
  rcases h with ⟨hq, q⟩ | ⟨hq, q⟩
  · obtain ⟨its, r', pl, hz⟩ := I.list hq
    have hlen := r'.length
    refine call_tuple_list pl.isList (fun h' kp => ?_) (by simp only [List.size_toArray] <;> omega)
    have I1 : Inv X pins σ H { s with heap := h' } := I.kept (t' := s.toks) kp
    have I2 : Inv X pins σ (upd H h'.objs.size (.tup ys)) { s with heap := h'.push { cls := .type "tuple", data := .seq its.toArray } } :=
      I1.laid (t' := s.toks) (fun b o e => Heap.get?_push_of_some _ e) (Nat.le_refl _) (show yW X.prog X.w _ _ _ (.tup ys) from ⟨hz, its, r', IsTup.new _ _⟩)
    exact ⟨.ref h'.objs.size, _, I2, rfl, q _ (I1.hok.fresh (Nat.le_refl _))⟩
  · obtain ⟨its, r', pl, hz⟩ := I.tuple hq
    exact call_tuple_same pl ⟨.ref p, H, I, rfl, q⟩
noncomputable def tyV (K : PySem.W.Frag) (T : String) (x : V) (H : Hp) : Prop := match x with
  | .str _ => T = "str"
  | .int _ => T = "int"
  | .ref p => (T = "list" ∧ ∃ xs, SqL K H p xs) ∨ (T = "tuple" ∧ ∃ o, K.lookup p = some o ∧ o.cls = .type "tuple" ∧ o.dict = none) ∨
      (T = "dict" ∧ ((∃ kvs, H p = some (.dK kvs)) ∨ ∃ kvs, H p = some (.dT kvs))) ∨ (T = "set" ∧ ∃ S n, H p = some (.set S n))
  | _ => False
theorem zco {pins : List (Addr × Obj)} {σ : St} {H : Hp} {s : Shared} {T : String} {x : V} {v : Value} (I : Inv X pins σ H s) (r : RelV x v) (ty : tyV X.K T x H) :
    s.TypeIs v T ∧ ∀ a, v = .ref a → ∃ ob, s.heap.get? a = some ob ∧ ob.dict = none := by
  cases x with
  | str z =>
    obtain ⟨t, rfl⟩ := r
    cases (show T = "str" from ty)
    exact ⟨typeIs_str s z t, fun _ e => nomatch e⟩
  | int i =>
    obtain ⟨t, rfl⟩ := r
    cases (show T = "int" from ty)
    exact ⟨typeIs_int s i t, fun _ e => nomatch e⟩
  | ref p =>
    cases r
    rcases ty with ⟨rfl, xs, hq⟩ | ⟨rfl, o, hk, hc, hd⟩ | ⟨rfl, hk⟩ | ⟨rfl, S, n, hk⟩
    · obtain ⟨its, _, pl, _⟩ := I.list hq
      refine ⟨pl.isList.typeIs, fun a e => ?_⟩
      cases e
      obtain ⟨o, n, e, c, hd, _⟩ := pl
      exact ⟨o, e, hd⟩
    · refine ⟨⟨o, I.kIn p o hk, hc⟩, fun a e => ?_⟩
      cases e
      exact ⟨o, I.kIn _ o hk, hd⟩
    · have z : ∃ o, s.heap.get? p = some o ∧ o.ExactDict := by
        rcases hk with ⟨kvs, hk⟩ | ⟨kvs, hk⟩
        · obtain ⟨_, _, _, _, o, _, _, e, ex, _⟩ := I.hok p _ hk
          exact ⟨o, e, ex⟩
        · obtain ⟨_, _, _, _, o, _, _, e, ex, _⟩ := I.hok p _ hk
          exact ⟨o, e, ex⟩
      obtain ⟨o, e, ex⟩ := z
      refine ⟨⟨o, e, ex.1⟩, fun a e2 => ?_⟩
      cases e2
      exact ⟨o, e, ex.2.1⟩
    · obtain ⟨o, _, _, _, e, ex, _⟩ := I.hok p _ hk
      refine ⟨⟨o, e, ex.1⟩, fun a e2 => ?_⟩
      cases e2
      exact ⟨o, e, ex.2.1⟩
  | _ => exact False.elim ty
noncomputable def tBM (K : PySem.W.Frag) (T : String) (r : V → List V → Hp → VK → Prop) (to : TE) (t : TA) : TE := fun σ H Q => to σ H fun x H1 => tyV K T x H1 ∧ t σ H1 fun xs H2 => r x xs H2 Q
variable {o e : Expr} {es : List Expr} {to : TE} {t : TA} {name : Str} {apos cpos : Pos} {T id : String} {r : V → List V → Hp → VK → Prop}
theorem zdz (pa : PlainAttrs T) (slot : Slot T name id) (hty : typeOf (.builtin id) = pure (.type "method_descriptor")) (hm : MtR X id r) (ho : PE X o to) (ha : PA X (e :: es) t)
    (hbase : attributeBase o name X.env (eval o X.env) = eval o X.env := by rfl)
    (hfew : ((backTo cpos (starEach (e :: es) X.env)).all (fun x => !x.1) && (backToKw cpos (keywordEach [] X.env)).all (fun x => x.1.isSome)
      && decide ((e :: es).length + ([] : List Keyword).length + (if ([] : List Keyword).isEmpty then 0 else 1) < 30)) = true := by rfl)
    (hline : (apos.endLine == cpos.line) = true := by rfl) (hs : starEach (e :: es) X.env = (false, eval e X.env) :: starEach es X.env := by rfl) (hplain : (backTo cpos (starEach es X.env)).any (·.1) = false := by rfl) :
    PE X (.Call (.Attribute o name apos) (e :: es) [] cpos) (tBM X.K T r to t) := by
  intro pins s σ H Q I h
  refine wpAny_Call_method_late hbase hfew hline rfl (thn (ho pins s σ H _ I h) fun v s1 ⟨x, H1, I1, r1, ty, q1⟩ => ?_)
  obtain ⟨h1, h2⟩ := zco I1 r1 ty
  refine ⟨T, id, pa, slot, hty, h1, h2, ?_⟩
  have hA := ha cpos pins s1 σ H1 _ I1 q1
  rw [hs] at hA ⊢
  refine Calls.callWith_builtin (by show (false || (backTo cpos (starEach es X.env)).any (·.1)) = false; rw [hplain] <;> rfl) (Calls.evalArgs_plain ?_)
  exact thn hA fun us s2 ⟨vs, H2, I2, r2, q2⟩ => hm pins s2 σ H2 x vs v us Q I2 r1 r2 q2
end
end L2
namespace L2
open PySem PySem.Spec PyProof.Rows
noncomputable def MtM (X : Cx) (id : String) (r : V → List V → Hp → VK → Prop) : Prop :=
  ∀ (pins : List (Addr × Obj)) (s : Shared) (σ : St) (H : Hp) (x : V) (xs : List V) (v : Value) (us : List Value) (Q : VK), Inv X pins σ H s → RelV x v → Vals xs us → r x xs H Q →
    wpAny (model X.prog X.w) X.A (call (.builtin id) (v :: us)) (EP X pins σ Q) X.xe s
theorem Vals.one : ∀ {x : V} {us : List Value}, Vals [x] us → ∃ u, us = [u] ∧ RelV x u
  | _, _, .cons r .nil => ⟨_, rfl, r⟩
theorem Vals.two : ∀ {x y : V} {us : List Value}, Vals [x, y] us → ∃ u v, us = [u, v] ∧ RelV x u ∧ RelV y v
  | _, _, _, .cons r (.cons q .nil) => ⟨_, _, rfl, r, q⟩
theorem Vals.zero : ∀ {us : List Value}, Vals [] us → us = []
  | _, .nil => rfl
theorem Vals.reverse {xs : List V} {us : List Value} (h : Vals xs us) : Vals xs.reverse us.reverse := by
  induction h with
  | nil => exact .nil
  | cons r t ih => rw [List.reverse_cons, List.reverse_cons]; exact Vals.append ih (.cons r .nil)
section
variable {X : Cx} {pins : List (Addr × Obj)} {σ : St} {H : Hp} {s : Shared} {l b : Addr} {xs ys zs : List V}
theorem Inv.lset {its its' : List Value} {n : Nat} {f : Array Value → Array Value} {t' : Nat} (I : Inv X pins σ H s) (hH : H l = some (.lst xs))
    (e : s.heap.get? l = some { cls := .type "list", data := .seq its.toArray n }) (hf : f its.toArray = its'.toArray) (hv : Vals ys its') (hz : ys.length ≤ sizeLine) :
    Inv X pins σ (upd H l (.lst ys)) { s with heap := s.heap.update l (Obj.mapSeq f), toks := t' } := by
  have q := PySem.IsL.update e f
  rw [hf] at q
  refine I.write (x := l) (e := l) (by rw [hH]; exact trivial) (.inl rfl) (fun b' u hb hu => (Heap.get?_update_other s.heap (Obj.mapSeq f) (Ne.symm hb)).trans hu) ⟨_, q⟩ ?_
  exact ⟨hz, its', _, hv, q⟩
theorem Inv.lnew {its : List Value} {t' : Nat} (I : Inv X pins σ H s) (hv : Vals ys its) (hz : ys.length ≤ sizeLine) :
    Inv X pins σ (upd H s.heap.objs.size (.lst ys)) { s with heap := s.heap.push { cls := .type "list", data := .seq its.toArray }, toks := t' } :=
  I.laid (fun _ _ q => Heap.get?_push_of_some _ q) (Nat.le_refl _) ⟨hz, its, 0, hv, Heap.get?_push_size _ rfl⟩
theorem Inv.fresh (I : Inv X pins σ H s) : H s.heap.objs.size = none := I.hok.fresh (Nat.le_refl _)
theorem Inv.lstM (I : Inv X pins σ H s) (hH : H l = some (.lst xs)) : xs.length ≤ sizeLine ∧ ∃ (its : List Value) (n : Nat), Vals xs its ∧ xs.length = its.length ∧ s.heap.get? l = some { cls := .type "list", data := .seq its.toArray n } := by
  obtain ⟨z, its, n, r, e⟩ := I.hok l _ hH
  exact ⟨z, its, n, r, r.length, e⟩
end
section
variable {X : Cx}
noncomputable def VS : V → List V → Hp → VK → Prop := fun x vs H Q => ∃ l xs y, x = .ref l ∧ vs = [y] ∧ H l = some (.lst xs) ∧ xs.length < sizeLine ∧ Q .non (upd H l (.lst (xs ++ [y])))
theorem jt : MtM X "list.append" VS := by
  intro pins s σ H x vs v us Q I rx rv h
  obtain ⟨l, xs, y, rfl, rfl, hH, hz, q⟩ := h
  cases rx
  obtain ⟨u, rfl, ru⟩ := rv.one
  obtain ⟨z, its, n, r, hl, e⟩ := I.lstM hH
  refine call_meets F.slot_list_append ⟨_, e, rfl⟩ F.entry_list_append (F.args_list_append_2 _ _) (PySem.list_append l its.toArray n u (by rw [List.size_toArray]; omega)) ⟨e, ?_⟩
  refine ⟨.non, _, I.lset (its' := its ++ [u]) hH e (by simp) (r.append (.cons ru .nil)) ?_, rfl, q⟩
  rw [List.length_append, List.length_singleton]
  omega
end
section
variable {prog : Program} {w : World} {A : Around} {E : Value → Shared → Prop} {s : Shared}
end
section
variable {X : Cx}
end
end L2
namespace Att
open PySem PySem.W PySem.Calls PyProof.Rows
theorem Za {P : Params} {h : Heap} : ∀ (ns : List Int) (vs : List Value), WellAll P h vs (ns.map WData.int) → IntsAre vs ns := by
  intro ns
  induction ns with
  | nil =>
    intro vs w
    rw [List.map_nil] at w
    cases w
    exact .nil
  | cons n ns ih =>
    intro vs w
    rw [List.map_cons] at w
    cases w with
    | cons a b =>
      cases a
      exact .cons _ _ (ih _ b)
theorem QT {l : OpenLaw} {n : Nat} (hn : l.most = some n) {P : Params} {h : Heap} {args : List WData} {vals : List Value}
    (hpre : l.row.toRowW.claim.pre args = true) (hwl : WellAll P h vals args) :
    ∃ a vs ns, vals = [Value.ref a] ∧ args = [WData.list (ns.map WData.int)] ∧ h.get? a = some { cls := .type "list", data := .seq vs.toArray } ∧ IntsAre vs ns ∧ ns.length ≤ n := by
  have hsh : WShape.hasAll [] args [.list .int] = true := (pre_splitW hpre).1
  have hc : l.pre.holds [] { args := args } = true := (pre_splitW hpre).2
  obtain ⟨d, r, rfl, h1, h2⟩ := hasAllW_cons hsh
  obtain rfl := hasAllW_nil h2
  obtain ⟨xs, rfl, h3⟩ := hasW_list h1
  obtain ⟨ns, rfl⟩ := items_int h3
  have hlen : ns.length ≤ n := by
    unfold OpenLaw.pre at hc
    have h4 : (WTm.not (.lt (.lit (.int (n : Int))) (.len (.arg 0)))).holds [] { args := [.list (ns.map .int)] } = true := by
      have h4 := (holds_andW hc).1
      rw [hn] at h4
      exact h4
    have h5 := condW_of h4 (w_not (w_lt w_lit (w_len_list (w_arg rfl))))
    rw [List.length_map] at h5
    refine Nat.le_of_not_lt fun q => ?_
    have q' : (n : Int) < ((ns.length : Nat) : Int) := by omega
    first
      | (rw [decide_eq_true q'] at h5; exact absurd h5 (by decide))
      | (simp at h5; omega)
  cases hwl with
  | cons w1 w2 =>
    cases w2
    cases w1 with
    | list ho hall => exact ⟨_, _, ns, rfl, rfl, ho, Za ns _ hall, hlen⟩
theorem QU (l : OpenLaw) (args : List WData) : l.row.toRowW.claim.post args (.bool true) args = true :=
  postW_of (r := l.row.toRowW) (X := (true == true))
    (show WShape.has [] (.bool true) .bool = true by first | rfl | decide | simp [WShape.has, WShape.arms, WShape.armsAll])
    (show (WTm.eq .res (.lit (.bool true))).value [] { args := args, res := some (.bool true), after := args } = some (.bool (true == true)) from w_eq_bool (w_res rfl) w_lit) rfl
section
variable {prog : Program} {w : World} {A : Around} {E : Value → Shared → Prop} {s : Shared} {K : Frag}
noncomputable def zeB (h : Heap) (L d : Addr) : List (Addr × Obj) := (List.range h.objs.size).filterMap fun a => if a = L ∨ a = d then none else (h.get? a).map fun o => (a, o)
end
end Att
namespace L2
open PySem PySem.Spec PyProof.Rows
theorem ju : ∀ {vs : List Value} {ns : List Int}, IntsAre vs ns → Vals (ns.map V.int) vs
  | _, _, .nil => .nil
  | _, _, .cons n t h => .cons ⟨t, rfl⟩ (ju h)
noncomputable def zcp (H : Hp) : Prop := ∀ b, H b = none ∨ ∃ o xs, H b = some (.frz o (.lst xs))
theorem JX {P : Program} {w : World} {K : PySem.W.Frag} {mg mb : Str → Option Value} {CX : CXT} {k : Nat} {fa a : Addr} {fd : FuncData} {x : Str} {sp : Sp} {s₁ : Shared} {vs : List Value} {ns : List Int}
    (KX : K.In s₁.heap) (hns : s₁.heap.Ns mainGlobals mg) (hb : s₁.heap.Ns builtinsNs mb) (hbb : ∀ x : Str, x ≠ "__name__" → mb x = bootBuiltins x) (hlim : s₁.heap.NoLimit) (hg : s₁.gens = #[])
    (ha : s₁.heap.get? a = some { cls := .type "list", data := .seq vs.toArray }) (hi : IntsAre vs ns) (hl : ns.length ≤ sizeLine) (hr : Room k callerA)
    (F : ∀ base : Heap, K.In base → base.Ns mainGlobals mg → FnOk P w K mg base CX k fa fd [x] sp) (hbind : ∀ (s : Shared) (u : Value), BindsTo s fd ⟨[u], []⟩ [(x, u)])
    (hsp : ∀ H : Hp, zcp H → SqL K H a (ns.map V.int) → sp [.ref a] H (fun v _ => v = .bl true) fun _ _ _ => False)
    (hCX : ∀ H e s', CX [] H s₁ (fun _ _ _ => False) e s' → False) :
    codeAny (model P w) callerA (.call (.ref fa) ⟨[.ref a], []⟩) (fun r s' => r = .ok (.ret (.bool true)) ∧ OldK s₁.heap s'.heap ∧ s'.os = s₁.os ∧ AllBare s'.gens) s₁ := by
  have rv := ju hi
  have lenV := hi.length
  have core : ∀ H : Hp, zcp H → SqL K H a (ns.map V.int) → HOk P w H s₁.heap → (∀ b, H b ≠ none → b = a) → (H a ≠ none → K.lookup a = none) →
      codeAny (model P w) callerA (.call (.ref fa) ⟨[.ref a], []⟩) (fun r s' => r = .ok (.ret (.bool true)) ∧ OldK s₁.heap s'.heap ∧ s'.os = s₁.os ∧ AllBare s'.gens) s₁ := by
    intro H hO hS hok hA hK
    have base_of : ∀ {b : Addr} {o : Obj}, s₁.heap.get? b = some o → H b = none → (qA s₁.heap H).get? b = some o := fun e n => JC e n
    have noA : ∀ {b : Addr} {o : Obj} {es : Array DictEntry} {ep : Nat}, s₁.heap.get? b = some o → o.data = .dict es ep → H b = none := fun {b o es ep} e d => by
      cases q : H b with
      | none => rfl
      | some u =>
        have e' : b = a := hA b (by rw [q]; simp)
        subst e'
        rw [ha] at e; cases e
        have d' : Data.seq vs.toArray _ = Data.dict es ep := d
        cases d'
    have nsK : ∀ {b : Addr} {m : Str → Option Value}, s₁.heap.Ns b m → (qA s₁.heap H).Ns b m := fun {b m} ⟨o, es, ep, e, d, r⟩ => ⟨o, es, ep, base_of e (noA e d), d, r⟩
    have hKb : K.In (qA s₁.heap H) := fun b o e => base_of (KX b o e) (by
      cases q : H b with
      | none => rfl
      | some u =>
        have e' : b = a := hA b (by rw [q]; simp)
        subst e'
        rw [hK (by rw [q]; simp)] at e; cases e)
    have hM : Mod K mg (qA s₁.heap H) := ⟨hKb, nsK hns, ⟨mb, nsK hb, hbb⟩, let ⟨mc, h1, h2⟩ := hlim; ⟨mc, nsK h1, h2⟩⟩
    have e0 : Env0 P w K mg (qA s₁.heap H) callerA [] s₁ H := ⟨rfl, hM, fun b o e => zaR e, Nat.le_of_eq (QD _ _), trivial, fun b hb => absurd (show b ∈ ([] : List Addr) from hb) (by simp), hok, .of_eq hg⟩
    refine codeAny_mono ((F _ hKb (nsK hns)).run callerA [] s₁ H ⟨[.ref a], []⟩ [.ref a] [.ref a] _ _ hr e0 (hbind s₁ (.ref a)) (.cons rfl .nil) (hsp H hO hS)) fun r s' h => ?_
    cases r with
    | error e => exact (hCX H e s' h).elim
    | ok fl =>
      cases fl with
      | next => exact False.elim h
      | brk => exact False.elim h
      | cont => exact False.elim h
      | ret u =>
        obtain ⟨v, H', os, bare, un, hok', r', q⟩ := h
        have q' : v = .bl true := q
        subst q'
        obtain rfl : u = Value.bool true := r'
        refine ⟨rfl, OldK.of_keep fun b o e => ?_, os, bare⟩
        cases q : H b with
        | none => exact un.keep b o e q (by intro z; exact absurd (show b ∈ ([] : List Addr) from z) (by simp)) (by simp)
        | some u =>
          rcases hO b with z | ⟨ob, xs, z⟩
          · rw [q] at z; cases z
          · have z2 := un.frzs b ob _ z
            obtain ⟨e1, _⟩ := hok b _ z
            obtain ⟨e2, _⟩ := hok' b _ z2
            rw [e] at e1; cases e1
            exact e2
  cases hk : K.lookup a with
  | some o =>
    have e := KX a o hk
    rw [ha] at e
    cases e
    refine core (fun _ => none) (fun _ => .inl rfl) (.inr ⟨_, vs.toArray, _, hk, rfl, rfl, rfl, by rw [List.size_toArray, lenV]; exact hl, by simpa using rv⟩) (fun b u z => by have z' : (none : Option HO) = some u := z; cases z') (fun b z => absurd rfl z) fun z => absurd rfl z
  | none =>
    refine core (fun b => if b = a then some (.frz { cls := .type "list", data := .seq vs.toArray } (.lst (ns.map V.int))) else none) (fun b => ?_) (.inl (.inr ⟨{ cls := .type "list", data := .seq vs.toArray }, if_pos rfl⟩)) (fun b u z => ?_) (fun b z => ?_) fun _ => hk
    · by_cases hb : b = a
      · exact .inr ⟨_, _, if_pos hb⟩
      · exact .inl (if_neg hb)
    · by_cases hb : b = a
      · have z' := (if_pos hb).symm.trans z
        cases z'
        subst hb
        exact ⟨ha, by rw [List.length_map]; exact hl, vs, _, rv, ha⟩
      · have z' := (if_neg hb).symm.trans z
        cases z'
    · by_cases hb : b = a
      · exact hb
      · exact absurd (if_neg hb) z
end L2
namespace L2
open PySem PySem.Spec PyProof.Rows
end L2
namespace L2
open PySem PySem.Spec PyProof.Rows
noncomputable def VT (s : Stmt) (j : Nat) : Stmt := match s with
  | .ClassDef _ _ _ body _ _ _ _ _ _ _ => body.getD j (.Pass ⟨0, 0, 0, 0⟩)
  | _ => .Pass ⟨0, 0, 0, 0⟩
noncomputable def defArgs (s : Stmt) : Arguments := match s with
  | .FunctionDef _ a _ _ _ _ _ _ _ _ => a
  | _ => { posonlyargs := [], args := [], vararg := none, kwonlyargs := [], kw_defaults := [], kwarg := none, defaults := [] }
noncomputable def defBody (s : Stmt) : List Stmt := match s with
  | .FunctionDef _ _ b _ _ _ _ _ _ _ => b
  | _ => []
noncomputable def defScope (s : Stmt) : Scope := match s with
  | .FunctionDef _ _ _ _ _ _ sc _ _ _ => sc
  | _ => { kind := .function, names := [], isGenerator := false, isCoroutine := false }
noncomputable abbrev CX0 : CXT := fun _ _ _ _ _ _ => False
noncomputable abbrev E0 : XK := fun _ _ _ => False
theorem UE {X : Cx} : uA CX0 X E0 := fun _ _ _ _ _ _ _ h => h.elim
structure Fun (K : PySem.W.Frag) (x qual : Str) (st : Stmt) (f : Addr) (fd : FuncData) : Prop where
  ex : ∃ (oc : Value) (od : Option Addr) (kV doc pm : Value) (an : Option Addr) (cdv ct : Value) (osl : Array (Option Value)),
    fd = PySem.W.fnOf x qual (defArgs st) (defBody st) (defScope st) .none kV doc pm an cdv ct ∧ K.lookup f = some ⟨oc, od, .func fd, osl⟩ ∧ PySem.W.codeIn K cdv qual = true
  kp : PySem.W.keepIn K (.ref f) = true
section
variable {P : Program} {w : World} {K : PySem.W.Frag} {mg : Str → Option Value} {base : Heap}
theorem Fun.ok {x qual : Str} {st : Stmt} {f : Addr} {fd : FuncData} {N ps : List Str} {k : Nat} {sp : Sp} (F : Fun K x qual st f fd) (S : FnScope N ps (defScope st)) (len : ∀ vs H Q E, sp vs H Q E → vs.length = ps.length)
    (hbody : ∀ (cdv : Value) (A : Around) (outer : List Env) (s : Shared) (H : Hp) (vs : List V) (Q : VK) (E : XK), Room k (A.deeper (envOfC qual (defScope st) s.heap.objs.size f cdv)) → sp vs H Q E →
      ∃ t, PSs (uh CX0 P w K mg base N qual (defScope st) f cdv A outer s H E).nox (defBody st) t ∧ t { nx := fun _ H' => Q .non H', rt := Q } (start N vs) H) : FnOk P w K mg base CX0 (k + 1) f fd ps sp := by
  obtain ⟨oc, od, kV, doc, pm, an, cdv, ct, osl, rfl, lk, hcd⟩ := F.ex
  refine zac lk hcd S len fun A outer s H vs Q E hr hsp => ?_
  obtain ⟨t, h, q⟩ := hbody cdv A outer s H vs Q E hr hsp
  exact ⟨t, h.nox, q⟩
theorem Fun.binds {x qual : Str} {st : Stmt} {f : Addr} {fd : FuncData} {ps : List Str} (F : Fun K x qual st f fd)
    (h : ∀ (kV doc pm : Value) (an : Option Addr) (cdv ct : Value) (us : List Value), us.length = ps.length → bindArgs (PySem.W.fnOf x qual (defArgs st) (defBody st) (defScope st) .none kV doc pm an cdv ct) ⟨us, []⟩ = pure (ps.zip us)) : Binds K fd ps [] := by
  obtain ⟨oc, od, kV, doc, pm, an, cdv, ct, osl, rfl, lk, hcd⟩ := F.ex
  exact .all (h kV doc pm an cdv ct)
theorem Xi {x qual : Str} {st : Stmt} {f : Addr} {oc : Value} {od an : Option Addr} {osl : Array (Option Value)} {kV doc pm cdv ct : Value} (l : K.lookup f = some ⟨oc, od, .func (PySem.W.fnOf x qual (defArgs st) (defBody st) (defScope st) .none kV doc pm an cdv ct), osl⟩)
    (c : PySem.W.codeIn K cdv qual = true) (k : PySem.W.keepIn K (.ref f) = true) : Fun K x qual st f (PySem.W.fnOf x qual (defArgs st) (defBody st) (defScope st) .none kV doc pm an cdv ct) := ⟨⟨oc, od, kV, doc, pm, an, cdv, ct, osl, rfl, l, c⟩, k⟩
end
theorem zm {A : Around} {k : Nat} (hr : Room k A) : A.units + 1 < cLine := Nat.lt_of_le_of_lt (Nat.add_le_add_left (by decide : 1 ≤ 64) _) hr.units
theorem ve {n : Nat} (h : n ≤ 1000) : n < sizeLine := Nat.lt_of_le_of_lt h (by decide)
section
variable {X : Cx}
theorem pv (i : Nat) {x : Str} {pos : Pos} (hN : X.N[i]? = some x := by rfl) (hv : Vis X.env.scope x := by first | exact Or.inl rfl | exact Or.inr (Or.inl rfl) | exact Or.inr (Or.inr rfl)) (hd : (x == ("__debug__" : Str)) = false := by decide)
    (hcd : (x == ("__classdict__" : Str)) = false := by decide) : PE X (.Name x pos) (Ud i) := zb4 hN hv hd hcd
end
noncomputable def Same (H H' : Hp) : Prop := ∀ b o, H b = some o → H' b = some o
theorem Same.refl (H : Hp) : Same H H := fun _ _ h => h
theorem Same.trans {H H1 H2 : Hp} (a : Same H H1) (b : Same H1 H2) : Same H H2 := fun c o h => b c o (a c o h)
theorem Same.free {H H' : Hp} (e : Same H H') {l : Addr} (h : H' l = Option.none) : H l = Option.none := by
  cases q : H l with
  | none => rfl
  | some o =>
    rw [e l o q] at h
    cases h
theorem Same.seq {K : PySem.W.Frag} {H H' : Hp} {a : Addr} {xs : List V} (e : Same H H') (h : SqL K H a xs) : SqL K H' a xs := by
  rcases h with (h | ⟨o, h⟩) | h
  · exact .inl (.inl (e _ _ h))
  · exact .inl (.inr ⟨o, e _ _ h⟩)
  · exact .inr h
end L2
namespace L2
open PySem PySem.Spec PyProof.Rows
theorem za8 {prog : Program} {w : World} {A : Around} {R : Result → Shared → Prop} {s : Shared} {elt tg iter : Expr} {ifs : List Expr} {scope : Scope} {pos : Pos} {it acc : Value} {env : Env} (J : Nat → Shared → Prop)
    (turn : ∀ k s0, J k s0 → wpAny (model prog w) A (pyNext it) (fun r s1 => match r with
      | none => R (.ok .next) s1
      | some v => wpAny (model prog w) A (letOwnedTupleGo tg it v) (fun _ s2 => wpAny (model prog w) A (assign tg env v) (fun _ s3 =>
          wpAny (model prog w) A (forIn ifs true fun c r => if r = true then do let ok ← isTrue c env (eval c env); pure (ForInStep.yield ok) else pure (ForInStep.yield r)) (fun ok s4 =>
            if ok = true then wpAny (model prog w) A (eval elt env) (fun x s5 => wpAny (model prog w) A (call (.builtin "list.append") [acc, x]) (fun _ s6 => ∃ j, j < k ∧ J j s6) (fun _ _ => False) s5) (fun _ _ => False) s4
            else ∃ j, j < k ∧ J j s4) (fun _ _ => False) s3) (fun _ _ => False) s2) (fun _ _ => False) s1) (fun _ _ => False) s0)
    (k : Nat) (h : J k s) : codeAny (model prog w) A (.compLoop (.ListComp elt [⟨tg, iter, ifs, 0⟩] scope pos) 0 it acc env) R s := by
  refine codeAny_loop rfl J (fun k0 s0 hJ => ?_) k h
  show wpAny _ A ((compTurn (.ListComp elt [⟨tg, iter, ifs, 0⟩] scope pos) 0 it acc env).onRaise (fun x => do noteFrame x env; theTreesLotGoes x)) _ _ s0
  refine wpAny_noted ?_
  rw [compTurn_list]
  refine wpAny_bind (wpAny_standAt (wpAny_bind (wpAny_mono (turn k0 s0 hJ) (fun r s1 h1 => ?_) fun _ _ f => f.elim)))
  cases r with
  | none => exact wpAny_pure h1
  | some v =>
    refine wpAny_bind (wpAny_mono h1 (fun _ s2 h2 => wpAny_bind (wpAny_mono h2 (fun _ s3 h3 => wpAny_bind (wpAny_mono h3 (fun ok s4 h4 => ?_) fun _ _ f => f.elim)) fun _ _ f => f.elim)) fun _ _ f => f.elim)
    cases ok with
    | false => exact wpAny_pure ⟨rfl, h4⟩
    | true => exact wpAny_bind (wpAny_bind (wpAny_mono h4 (fun x s5 h5 => wpAny_bind (wpAny_mono h5 (fun _ s6 h6 => wpAny_pure (wpAny_pure ⟨rfl, h6⟩)) fun _ _ f => f.elim)) fun _ _ f => f.elim))
noncomputable def PTs (X : Cx) (ifs : List Expr) (t : TT) : Prop :=
  ∀ (pins : List (Addr × Obj)) (s : Shared) (σ : St) (H : Hp) (Q : Bool → Hp → Prop), Inv X pins σ H s → t σ H Q →
    wpAny (model X.prog X.w) X.A (forIn ifs true fun c r => if r = true then do let ok ← isTrue c X.env (eval c X.env); pure (ForInStep.yield ok) else pure (ForInStep.yield r)) (TP X pins σ Q) X.xe s
noncomputable def zcq : TT := fun _ H Q => Q true H
theorem vO {X : Cx} : PTs X [] zcq := fun _ _ _ H _ I h => wpAny_tests_nil ⟨H, I, h⟩
theorem ZX {X : Cx} {c : Expr} {t : TT} (h : PT X c t) : PTs X [c] t := fun pins s σ H Q I hw => wpAny_tests_one (h pins s σ H Q I hw)
noncomputable def xg (X : Cx) (N : List Str) (scope : Scope) (cl : List (Str × Addr)) (C : Addr) (s : Shared) (H : Hp) (fp : List Addr) : Cx where
  prog := X.prog
  w := X.w
  K := X.K
  mg := X.mg
  base := X.base
  A := X.A
  N := N
  s₀ := s
  H₀ := H
  env := compEnvC scope cl C X.env
  outer := X.stack
  stack := X.stack
  ex := fp
  fn := fun _ => false
  calm := X.calm
  pn := []
  xe := fun _ _ => False
noncomputable def qC (n : Nat) (js : List Nat) (σ : St) : St := List.replicate n none ++ js.map fun j => (σ[j]?).join
structure LcOk (X : Cx) (N : List Str) (n : Nat) (js : List Nat) (scope : Scope) (cl : List (Str × Addr)) : Prop where
  clos : closureFor scope X.env = pure cl
  nocell : ∀ y ∈ scope.names, y.2 ≠ .cell
  kind : scope.kind = .function
  names : ∀ y ∈ scope.names, y.2 = .local → scope.names.lookup y.1 = some .local
  cells : ∀ x c, cl.lookup x = some c → X.env.cells.lookup x = some c
  has : ∀ x, ((relabel scope X.env).names.lookup x = some .cell ∨ (relabel scope X.env).names.lookup x = some .free) → ∃ c, cl.lookup x = some c
  len : n + js.length = N.length
  free : ∀ (i : Nat) (x : Str), N[n + i]? = some x → ∃ j c, js[i]? = some j ∧ X.N[j]? = some x ∧ (X.env.scope.names.lookup x = some .cell ∨ X.env.scope.names.lookup x = some .free) ∧
    ((relabel scope X.env).names.lookup x = some .cell ∨ (relabel scope X.env).names.lookup x = some .free) ∧ cl.lookup x = some c
section
variable {X : Cx} {pins : List (Addr × Obj)} {σ : St} {H : Hp} {s : Shared} {N : List Str} {n : Nat} {js : List Nat} {scope : Scope} {cl : List (Str × Addr)}
theorem LcOk.ok (L : LcOk X N n js scope cl) (I : Inv X pins σ H s) {fp : List Addr} (hf : ∀ b ∈ fp, FpOk X pins H b) (hlt : ∀ b ∈ fp, b < s.heap.objs.size) {C : Addr} (hC : s.heap.objs.size ≤ C) : (xg X N scope cl C s H fp).Ok where
  mod := I.ok.mod
  kind := L.kind
  glob := I.ok.glob
  blt := I.ok.blt
  above := hC
  inj := fun x y c h1 h2 => I.ok.inj x y c (L.cells x c h1) (L.cells y c h2)
  has := fun x hx => L.has x hx
  cab := fun x c hx _ => by cases hx
  hd := I.ok.hd
  frames := I.ok.frames
  stk := .inl rfl
  exf := fun b hb => ⟨Nat.ne_of_lt (Nat.lt_of_lt_of_le (hlt b hb) hC), fun x c e => (hf b hb).2.2.2.2.1 x c (L.cells x c e)⟩
  bs := I.bs
  bsz := Nat.le_trans I.ok.bsz I.sz
  noex := fun b o e hb => by
    rcases (hf b hb).2.2.2.1 with z | z
    · exact I.ok.noex b o e z
    · exact absurd (Nat.lt_of_lt_of_le (Heap.lt_size (I.ok.bs b o e).1) z) (Nat.lt_irrefl _)
  exfs := fun b hb hz => by
    rcases List.mem_cons.mp (I.stkSub b hz) with z | z
    · exact (hf b hb).2.1 z
    · exact (hf b hb).2.2.1 z
  funs := I.stack
  frf := I.stkFree
theorem JY {n : Nat} {js : List Nat} {σ : St} {i : Nat} {v : V} (h : (qC n js σ)[i]? = some (some v)) : ∃ k j, i = n + k ∧ js[k]? = some j ∧ σ[j]? = some (some v) := by
  unfold qC at h
  by_cases hi : i < n
  · rw [List.getElem?_append_left (by simpa using hi), List.getElem?_replicate] at h
    split at h <;> cases h
  · rw [List.getElem?_append_right (by simpa using hi), List.length_replicate, List.getElem?_map] at h
    cases e : js[i - n]? with
    | none => rw [e] at h; cases h
    | some j =>
      rw [e] at h
      refine ⟨i - n, j, by omega, e, ?_⟩
      cases e2 : σ[j]? with
      | none => rw [Option.map_some, e2] at h; cases h
      | some o =>
        rw [Option.map_some, e2] at h
        have h' : o = some v := Option.some.inj h
        rw [h']
theorem Inv.lc (L : LcOk X N n js scope cl) (I : Inv X pins σ H s) {fp : List Addr} (hf : ∀ b ∈ fp, FpOk X pins H b) (hlt : ∀ b ∈ fp, b < s.heap.objs.size) {D C : Addr} {h1 : Heap} {m : Str → Option Value} {tk : Nat}
    (hD : s.heap.objs.size ≤ D) (hC : s.heap.objs.size ≤ C) (hDC : D ≠ C) (hn : h1.Ns C m) (old : ∀ b o, s.heap.get? b = some o → h1.get? b = some o) {k : Nat} (hl : h1.get? D = some { cls := .type "list", data := .seq ([] : List Value).toArray k }) :
    Inv (xg X N scope cl C s H fp) [] (qC n js σ) (upd H D (.lst [])) { s with heap := h1, toks := tk } where
  ok := L.ok I hf hlt hC
  os := rfl
  bare := I.bare
  base := Un.laid old hD (I.hok.fresh hD)
  loc := by
    refine ⟨m, hn, fun i x v e1 e2 e3 => ?_⟩
    obtain ⟨k, j, rfl, ej, eσ⟩ := JY e2
    obtain ⟨j', c, ej', eN, kx, kr, ec⟩ := L.free k x e1
    rw [ej] at ej'
    cases ej'
    obtain ⟨mx, hmx, hl'⟩ := I.loc
    obtain ⟨u, r, lk⟩ := hl' j x v eN eσ (kx.elim (fun z => .inr (.inl z)) fun z => .inr (.inr z))
    refine ⟨u, r, .inr ⟨kr, c, ec, ?_⟩⟩
    have hcx := L.cells x c ec
    rcases lk with ⟨z, _⟩ | ⟨_, c', e', hc'⟩
    · have z' : X.env.scope.names.lookup x = some .local := z
      rcases kx with y | y <;> rw [y] at z' <;> cases z'
    · rw [hcx] at e'
      cases e'
      obtain ⟨o, ho, hd⟩ := hc'
      exact ⟨o, old _ _ ho, hd⟩
  cell := fun x c e => by
    obtain ⟨v, o, ho, hd⟩ := I.cell x c (L.cells x c e)
    exact ⟨v, o, old _ _ ho, hd⟩
  free := by
    show upd H D (.lst []) C = none
    rw [zj (Ne.symm hDC)]
    exact I.hok.fresh hC
  freeC := fun x c e => by
    obtain ⟨v, o, ho, hd⟩ := I.cell x c (L.cells x c e)
    rw [zj (Nat.ne_of_lt (Nat.lt_of_lt_of_le (Heap.lt_size ho) hD))]
    exact I.freeC x c (L.cells x c e)
  pin := fun p hp => absurd (show p ∈ ([] : List (Addr × Obj)) from hp) (by simp)
  hok := I.hok.laid old hD ⟨Nat.zero_le _, [], k, .nil, hl⟩
  len := by
    show (qC n js σ).length = N.length
    unfold qC
    rw [List.length_append, List.length_replicate, List.length_map]
    exact L.len
theorem Inv.unlc {fp : List Addr} {C : Addr} {σ' : St} {H' : Hp} {s' : Shared} {h' : Heap} (I : Inv X pins σ H s) (hf : ∀ b ∈ fp, FpOk X pins H b) (hC : s.heap.objs.size ≤ C) (I' : Inv (xg X N scope cl C s H fp) [] σ' H' s') (hs : Heap.SameBut C s'.heap h') :
    Inv X pins σ H' { s' with heap := h' } := by
  have nC : ∀ b o, s.heap.get? b = some o → b ≠ C := fun b o e => Nat.ne_of_lt (Nat.lt_of_lt_of_le (Heap.lt_size e) hC)
  have hfree : H' C = none := I'.free
  have u := I'.base
  refine I.call' (ch := fp) (s' := { s' with heap := h' }) I'.os ⟨fun b o e n hb hx => ?_, fun b o e n hb hx => ?_, u.free, fun b o e hx => ?_, u.tups, u.frzs, u.tbls⟩ (fun b ob e => ?_) I'.bare fun b hb => ⟨(hf b hb).2.2.2.1, (hf b hb).2.1, (hf b hb).2.2.2.2.1, (hf b hb).2.2.2.2.2⟩
  · exact (hs.2 b (nC b o e)).trans (u.keep b o e n hb hx)
  · obtain ⟨sl, q⟩ := u.slot b o e n hb hx
    exact ⟨sl, (hs.2 b (nC b o e)).trans q⟩
  · obtain ⟨o', q⟩ := u.there b o e hx
    exact ⟨o', (hs.2 b (nC b o e)).trans q⟩
  · refine (I'.hok b ob e).stay (fun c w' hc q => (hs.2 c ?_).trans q) (fun _ q => q) fun _ _ q => q
    rintro rfl
    rcases hc with rfl | hc
    · rw [hfree] at e
      cases e
    · rw [hfree] at hc
      cases hc
noncomputable def tLc (wi : TI) (n : Nat) (js : List Nat) (g : TG) (tt : TT) (te : TE) : TE := fun σ H Q => wi σ H fun J H1 => ∀ D, H1 D = none → ∃ W : Nat → Nat → St → Hp → Prop, (∃ m, W 0 m (qC n js σ) (upd H1 D (.lst []))) ∧ ∀ i m σ' H', W i m σ' H' →
  (J.stop i H' ∧ Q (.ref D) H') ∨ (J.go i H' ∧ ∃ Nx : St → Hp → Prop, (∀ σ2 H2, Nx σ2 H2 → ∃ m', m' < m ∧ W (i + 1) m' σ2 H2) ∧
    ∀ x H2, J.yld i H' x H2 → g x σ' H2 fun σ3 H3 => tt σ3 H3 fun ok H4 => if ok = true then te σ3 H4 fun y H5 => ∃ ys, H5 D = some (.lst ys) ∧ ys.length < sizeLine ∧ Nx σ3 (upd H5 D (.lst (ys ++ [y]))) else Nx σ3 H4)
theorem VU {elt tg iter : Expr} {ifs : List Expr} {pos : Pos} {g : TG} {tt : TT} {te : TE} {it : Addr} {fp : List Addr} {tn : Nat → Heap → Prop} {J : It} {Q : V → Hp → Prop} {E : Value → Shared → Prop} {RR : Value → Addr → Result → Shared → Prop}
    (L : LcOk X N n js scope cl) (hc : X.calm = true) (I : Inv X pins σ H s) (T : Turn X.prog X.w X.K tg J fp it tn) (t0 : tn 0 s.heap) (hf : ∀ b ∈ fp, FpOk X pins H b)
    (hg : ∀ C s0 H0 fp0, PG (xg X N scope cl C s0 H0 fp0) tg g) (ht : ∀ C s0 H0 fp0, PTs (xg X N scope cl C s0 H0 fp0) ifs tt) (he : ∀ C s0 H0 fp0, PE (xg X N scope cl C s0 H0 fp0) elt te)
    (hw : ∀ D, H D = none → ∃ W : Nat → Nat → St → Hp → Prop, (∃ m, W 0 m (qC n js σ) (upd H D (.lst []))) ∧ ∀ i m σ' H', W i m σ' H' →
      (J.stop i H' ∧ Q (.ref D) H') ∨ (J.go i H' ∧ ∃ Nx : St → Hp → Prop, (∀ σ2 H2, Nx σ2 H2 → ∃ m', m' < m ∧ W (i + 1) m' σ2 H2) ∧
        ∀ x H2, J.yld i H' x H2 → g x σ' H2 fun σ3 H3 => tt σ3 H3 fun ok H4 => if ok = true then te σ3 H4 fun y H5 => ∃ ys, H5 D = some (.lst ys) ∧ ys.length < sizeLine ∧ Nx σ3 (upd H5 D (.lst (ys ++ [y]))) else Nx σ3 H4))
    (fin : ∀ D C σ' H' s', s.heap.objs.size ≤ C → Inv (xg X N scope cl C s H fp) [] σ' H' s' → Q (.ref D) H' → RR (.ref D) C (.ok .next) s') :
    wpAny (model X.prog X.w) X.A (newList []) (fun acc s1 => wpAny (model X.prog X.w) X.A (newFunctionEnv scope X.env.globals cl [] X.env.qual none .none (some X.env)) (fun cenv s2 =>
      codeAny (model X.prog X.w) X.A (.compStart (.ListComp elt [⟨tg, iter, ifs, 0⟩] scope pos) 0 (.ref it) acc { cenv with scope := relabel scope X.env }) (RR acc cenv.locals) s2) E s1) E s := by
  refine wpAny_newObj_type (wpAny_newFunctionEnv L.nocell (by intro y hy; simp at hy) (fun h1 hn1 hs1 => ?_) L.kind)
  dsimp only at hn1 hs1 ⊢
  generalize hG : s.heap.push { cls := .type "list", dict := none, data := .seq ([] : List Value).toArray } = G at hn1 hs1 ⊢
  have eC : G.objs.size = s.heap.objs.size + 1 := by rw [← hG, Heap.size_push]
  have hC : s.heap.objs.size ≤ G.objs.size := by rw [eC]; exact Nat.le_succ _
  have hDC : s.heap.objs.size ≠ G.objs.size := by rw [eC]; exact Nat.ne_of_lt (Nat.lt_succ_self _)
  have hlt : ∀ b ∈ fp, b < s.heap.objs.size := fun b hb => by
    obtain ⟨o, e, _⟩ := T.obj 0 _ t0 b hb
    exact Heap.lt_size e
  have old : ∀ b o, s.heap.get? b = some o → h1.get? b = some o := fun b o e => by
    have hb := Heap.lt_size e
    exact hs1.extBut b o (Nat.ne_of_lt (Nat.lt_of_lt_of_le hb hC)) (Heap.get?_push_of_some _ (hG ▸ Heap.get?_push_of_some _ e))
  have hl : h1.get? s.heap.objs.size = some { cls := .type "list", data := .seq ([] : List Value).toArray 0 } := hs1.extBut _ _ hDC (Heap.get?_push_of_some _ (hG ▸ Heap.get?_push_size _ rfl))
  have I1 : ∀ tk, Inv (xg X N scope cl G.objs.size s H fp) [] (qC n js σ) (upd H s.heap.objs.size (.lst [])) { s with heap := h1, toks := tk } := fun tk => Inv.lc L I hf hlt (Nat.le_refl _) hC hDC hn1 old hl
  have t1 : tn 0 h1 := T.keep _ _ _ t0 fun b _ o e => old b o e
  obtain ⟨W, ⟨m0, w0⟩, step⟩ := hw s.heap.objs.size (I.hok.fresh (Nat.le_refl _))
  have fr1 : ∀ b ∈ fp, upd H s.heap.objs.size (.lst []) b = none := fun b hb => by
    rw [zj (Nat.ne_of_lt (hlt b hb))]
    exact (hf b hb).1
  have fps : ∀ {H' : Hp}, (∀ b ∈ fp, H' b = none) → ∀ b ∈ fp, FpOk (xg X N scope cl G.objs.size s H fp) [] H' b := fun {H'} hn b hb => by
    refine ⟨hn b hb, Nat.ne_of_lt (Nat.lt_of_lt_of_le (hlt b hb) hC), fun hz => ?_, .inl hb, fun x c e => (hf b hb).2.2.2.2.1 x c (L.cells x c e), fun p hp => absurd (show p ∈ ([] : List (Addr × Obj)) from hp) (by simp)⟩
    rcases List.mem_cons.mp (I.stkSub b hz) with z | z
    · exact (hf b hb).2.1 z
    · exact (hf b hb).2.2.1 z
  have loop : ∀ s0 : Shared, s0 = { s with heap := h1, toks := s.toks + ([] : List (Str × Value)).length } →
      codeAny (model X.prog X.w) X.A (.compLoop (.ListComp elt [⟨tg, iter, ifs, 0⟩] scope pos) 0 (.ref it) (.ref s.heap.objs.size) (compEnvC scope cl G.objs.size X.env)) (RR (.ref s.heap.objs.size) G.objs.size) s0 := by
    rintro s0 rfl
    refine za8 (fun k s' => ∃ i σ' H', Inv (xg X N scope cl G.objs.size s H fp) [] σ' H' s' ∧ tn i s'.heap ∧ (∀ b ∈ fp, H' b = none) ∧ W i k σ' H') ?_ m0 ⟨0, _, _, I1 _, t1, fr1, w0⟩
    rintro k s3 ⟨i, σ3, H3, I3, t3, fr3, w3⟩
    rcases step i k σ3 H3 w3 with ⟨stop, qn⟩ | ⟨go, Nx, hN, body⟩
    · refine thn (T.done (xg X N scope cl G.objs.size s H fp) rfl rfl rfl hc i [] s3 σ3 H3 _ I3 (fps fr3) t3 stop) fun r s4 ⟨hr, I4⟩ => ?_
      subst hr
      exact fin _ _ σ3 H3 s4 hC I4 qn
    · refine thn (T.item (xg X N scope cl G.objs.size s H fp) rfl rfl rfl hc i [] s3 σ3 H3 _ I3 (fps fr3) t3 go) fun r s4 ⟨u, hr, h4⟩ => ?_
      subst hr
      refine thn h4 fun _ s5 ⟨x, H5, I5, r5, y5, t5, fr5⟩ => ?_
      have I5' := I5.pinned (fps fr5) (T.obj _ _ t5)
      refine thn (hg _ _ _ _ _ s5 σ3 H5 x u _ I5' r5 (body x H5 y5)) fun _ s6 ⟨σ6, H6, I6, q6⟩ => ?_
      have again : ∀ {σ7 : St} {H7 : Hp} {s7 : Shared}, Inv (xg X N scope cl G.objs.size s H fp) ([] ++ jm fp s5.heap) σ7 H7 s7 → Nx σ7 H7 →
          ∃ j, j < k ∧ ∃ i σ' H', Inv (xg X N scope cl G.objs.size s H fp) [] σ' H' s7 ∧ tn i s7.heap ∧ (∀ b ∈ fp, H' b = none) ∧ W i j σ' H' := fun {σ7 H7 s7} I7 n7 => by
        obtain ⟨m', hm, w7⟩ := hN σ7 H7 n7
        refine ⟨m', hm, i + 1, σ7, H7, I7.unpinned, T.keep _ _ _ t5 fun b hb o e => (I7.pin (b, o) (List.mem_append_right _ (List.mem_append_right _ (uo hb e)))).1, fun b hb => ?_, w7⟩
        obtain ⟨o, e, _⟩ := T.obj _ _ t5 b hb
        exact (I7.pin (b, o) (List.mem_append_right _ (List.mem_append_right _ (uo hb e)))).2.1
      refine thn (ht _ _ _ _ _ s6 σ6 H6 _ I6 q6) fun ok s7 ⟨H7, I7, q7⟩ => ?_
      cases ok with
      | false =>
        rw [if_neg (by decide)] at q7 ⊢
        exact again I7 q7
      | true =>
        rw [if_pos rfl] at q7 ⊢
        refine thn (he _ _ _ _ _ s7 σ6 H7 _ I7 q7) fun v s8 ⟨y, H8, I8, r8, ys, e8, z8, q8⟩ => ?_
        refine thn (jt _ s8 σ6 H8 (.ref s.heap.objs.size) [y] (.ref s.heap.objs.size) [v] (fun _ H9 => Nx σ6 H9) I8 rfl (.cons r8 .nil) ⟨_, ys, y, rfl, rfl, e8, z8, q8⟩) fun _ s9 ⟨_, H9, I9, _, q9⟩ => ?_
        exact again I9 q9
  exact codeAny_compStart_list (loop _ rfl) (T.self X.A 0 _ _ _ t1 (loop _ rfl))
theorem uW {elt tg iter : Expr} {ifs : List Expr} {pos : Pos} {wi : TI} {g : TG} {tt : TT} {te : TE} (L : LcOk X N n js scope cl) (hc : X.calm = true) (hi : PI X tg iter wi)
    (hg : ∀ C s0 H0 fp0, PG (xg X N scope cl C s0 H0 fp0) tg g) (ht : ∀ C s0 H0 fp0, PTs (xg X N scope cl C s0 H0 fp0) ifs tt) (he : ∀ C s0 H0 fp0, PE (xg X N scope cl C s0 H0 fp0) elt te)
    (hs : ∀ x, foldedSetIterable iter X.env x = pure x := by intro _; rfl) : PE X (.ListComp elt [⟨tg, iter, ifs, 0⟩] scope pos) (tLc wi n js g tt te) := by
  intro pins s σ H Q I h
  rw [eval_ListComp]
  refine wpAny_comprehension_free (use := none) rfl hs L.clos L.kind L.names (thn (hi pins s σ H _ I h) fun v s1 h1 => thn h1 fun itv s2 h2 => ?_)
  obtain ⟨it, fp, tn, J, H2, e, I2, T, t2, f2, hw⟩ := h2
  subst e
  refine VU (RR := fun acc C => compPost (model X.prog X.w) X.A X.xe none (EP X pins σ Q) acc C) L hc I2 T t2 f2 hg ht he hw ?_
  intro D C σ' H' s' hC I' q
  obtain ⟨m, hn, _⟩ := I'.loc
  exact ⟨m, hn, fun h' hs' => ⟨.ref D, H', I2.unlc f2 hC I' hs', rfl, q⟩⟩
theorem Xj {i : Nat} {x : Str} {elt tg iter : Expr} {ifs : List Expr} {pos pos' spos : Pos} {wi : TI} {g : TG} {tt : TT} {te : TE} (hN : X.N.Nodup) (hx : X.N[i]? = some x) (hk : X.env.scope.names.lookup x = some .local)
    (L : LcOk X N n js scope cl) (hc : X.calm = true) (hi : PI X tg iter wi)
    (hg : ∀ C s0 H0 fp0, PG (xg X N scope cl C s0 H0 fp0) tg g) (ht : ∀ C s0 H0 fp0, PTs (xg X N scope cl C s0 H0 fp0) ifs tt) (he : ∀ C s0 H0 fp0, PE (xg X N scope cl C s0 H0 fp0) elt te)
    (hsw : swapsWith (.ListComp elt [⟨tg, iter, ifs, 0⟩] scope pos) (some (.Name x pos')) spos.line X.env = pure true := by rfl)
    (hs : ∀ x, foldedSetIterable iter X.env x = pure x := by intro _; rfl) : PS X (.Assign [.Name x pos'] (.ListComp elt [⟨tg, iter, ifs, 0⟩] scope pos) spos) (ZR (tLc wi n js g tt te) (jX i)) := by
  intro pins s σ H Dn I h
  rw [exec_Assign_Name_used _ _ _ _ hsw]
  refine wpAny_bind (wpAny_standAt (wpAny_bind ?_))
  show wpAny _ X.A (do let _ ← comprehension (.ListComp elt [⟨tg, iter, ifs, 0⟩] scope pos) scope X.env _ (newList []) false (eval iter X.env) (some (assign (.Name x pos') X.env))) _ _ s
  refine wpAny_bind (thn (wpAny_comprehension_free (use := some (assign (.Name x pos') X.env)) (Q := fun _ s' => SP X pins Dn .next s') rfl hs L.clos L.kind L.names (thn (hi pins s σ H _ I h) fun v s1 h1 => thn h1 fun itv s2 h2 => ?_)) fun _ s' hq => wpAny_pure (wpAny_pure hq))
  obtain ⟨it, fp, tn, J, H2, e, I2, T, t2, f2, hw⟩ := h2
  subst e
  refine VU (Q := fun x H1 => jX i x σ H1 Dn.nx) (RR := fun acc C => compPost (model X.prog X.w) X.A X.xe (some (assign (.Name x pos') X.env)) (fun _ s' => SP X pins Dn .next s') acc C) L hc I2 T t2 f2 hg ht he hw ?_
  intro D C σ' H' s' hC I' q
  obtain ⟨m, hn, _⟩ := I'.loc
  have I3 : Inv X pins σ H' s' := I2.unlc (h' := s'.heap) f2 hC I' (.refl ..)
  show wpAny _ X.A (assign (.Name x pos') X.env (.ref D)) _ X.xe s'
  refine wpAny_assign_Name (Yk (v := .ref D) I3 hN hx (.inl hk) rfl (fun s4 I4 hb => ?_) (.inr hk))
  obtain ⟨a, hsa, ha⟩ := hb
  have bl : ∀ b o, s2.heap.get? b = some o → b ≠ C := fun b o e => Nat.ne_of_lt (Nat.lt_of_lt_of_le (Heap.lt_size e) hC)
  have hL : C ≠ X.env.locals := fun z => absurd (Nat.lt_of_lt_of_le I2.lt (z ▸ hC)) (Nat.lt_irrefl _)
  have hcl : ∀ y c, X.env.cells.lookup y = some c → c ≠ C := fun y c e => by
    obtain ⟨v, o, ho, _⟩ := I2.cell y c e
    exact bl c o ho
  have hCa : C ≠ a := by
    rcases ha with rfl | ha
    · exact hL
    · exact Ne.symm (hcl _ _ ha)
  exact ⟨m, hn.sameBut hsa hCa, fun h' hs' => ⟨_, H', I4.turned (h' := h') (t' := s4.toks) (it := C) (fun b o hb e => (hs'.2 b hb).trans e) I'.free hL (.inr (Nat.le_trans I2.sz hC)) hcl (fun p hp => bl _ _ (I2.pin p hp).1), q⟩⟩
end
end L2
namespace L2
open PySem PySem.Spec PyProof.Rows
structure Cal (P : Program) (w : World) (K : PySem.W.Frag) (mg : Str → Option Value) (base : Heap) (k : Nat) (x : Str) (dvs : List V) (sp : Sp) : Prop where
  ex : ∃ (f : Addr) (fd : FuncData) (ps : List Str) (ds : List Value), FnOk P w K mg base CX0 k f fd ps sp ∧ mg x = some (.ref f) ∧ PySem.W.keepIn K (.ref f) = true ∧ Binds K fd ps ds ∧ Vals dvs ds
section
variable {X : Cx} {k : Nat} {sp : Sp} {dvs : List V} {x : Str} {p pos : Pos} {e : Expr} {es : List Expr} {t : TA}
theorem zn (c : Cal X.prog X.w X.K X.mg X.base k x dvs sp) (hr : Room k X.A) (hg : Gl X x) (ha : PA X (e :: es) t) (hdb : (x == ("__debug__" : Str)) = false := by decide)
    (he : starEach (e :: es) X.env = (false, eval e X.env) :: starEach es X.env := by rfl) (hpl : (backTo pos (starEach es X.env)).any (·.1) = false := by rfl) : PE X (.Call (.Name x p) (e :: es) [] pos) (j6 sp dvs E0 t) := by
  obtain ⟨f, fd, ps, ds, F, hm, hk, hb, hd⟩ := c.ex
  exact za2 F hr hg hm hk hb hd UE ha hdb he hpl
end
section
variable {X : Cx}
theorem zcr : OpR X (compareOp .Is) (fun x y H Q => ∃ b, y = .bl b ∧ Q (.bl (decide (x = .bl b))) H) := by
  intro pins s σ H x y v u Q I rx ry h
  obtain ⟨b, rfl, q⟩ := h
  cases ry
  refine wpAny_is_plain ?_ (xi I q ?_)
  all_goals cases x <;> first
    | (obtain ⟨t, rfl⟩ := rx; rfl)
    | (cases rx; rfl)
    | (cases rx; rename_i c; cases c <;> cases b <;> rfl)
theorem VW : OpR X (compareOp .IsNot) (fun x y H Q => ∃ b, y = .bl b ∧ Q (.bl (!decide (x = .bl b))) H) := by
  intro pins s σ H x y v u Q I rx ry h
  obtain ⟨b, rfl, q⟩ := h
  cases ry
  refine wpAny_isNot_plain ?_ (xi I q ?_)
  all_goals cases x <;> first
    | (obtain ⟨t, rfl⟩ := rx; rfl)
    | (cases rx; rfl)
    | (cases rx; rename_i c; cases c <;> cases b <;> rfl)
theorem Vp : y9 X (.builtin "isinstance") (fun xs H Q => ∃ x n t b, xs = [x, .ty n] ∧ TyOf X.K H x t ∧ PySem.W.kitOne X.K t (.type n) = some b ∧ Q (.bl b) H) := by
  intro pins s σ H xs us Q I r h
  obtain ⟨x, n, t, b, rfl, ty, e, q⟩ := h
  obtain ⟨u, c, rfl, ru, rc⟩ := r.two
  cases rc
  exact QN I ru ty e fun tk => ⟨.bl b, H, I.tok tk, rfl, q⟩
noncomputable def zdA (K : PySem.W.Frag) (H : Hp) (x : V) : Prop := ∃ n, TyOf K H x (.type n) ∧ (n = "NoneType" ∨ n = "str" ∨ n = "list" ∨ n = "tuple" ∨ n = "dict")
noncomputable def Th (K : PySem.W.Frag) (H : Hp) (x : V) : Option Int → Prop
  | some i => x = .int i
  | none => (∃ b, x = .bl b) ∨ zdA K H x
end
mutual
noncomputable def Rep (K : PySem.W.Frag) (H : Hp) : PyData → V → Prop
  | .none, x => x = .non
  | .bool b, x => x = .bl b
  | .int i, x => x = .int i
  | .str z, x => x = .str z
  | .list ds, x => ∃ a xs, x = .ref a ∧ SqL K H a xs ∧ Reps K H ds xs
  | .tuple ds, x => ∃ a xs, x = .ref a ∧ SqT K H a xs ∧ Reps K H ds xs
  | .dict kvs, x => kvs = [] ∧ ∃ a, x = .ref a ∧ Rd H a (.dK [])
noncomputable def Reps (K : PySem.W.Frag) (H : Hp) : List PyData → List V → Prop
  | [], xs => xs = []
  | d :: ds, xs => ∃ x r, xs = x :: r ∧ Rep K H d x ∧ Reps K H ds r
end
theorem SqL.same {K : PySem.W.Frag} {H H' : Hp} {a : Addr} {xs : List V} (e : Same H H') (h : SqL K H a xs) : SqL K H' a xs := e.seq h
theorem SqT.same {K : PySem.W.Frag} {H H' : Hp} {a : Addr} {xs : List V} (e : Same H H') (h : SqT K H a xs) : SqT K H' a xs := by
  rcases h with (h | ⟨o, h⟩) | h
  · exact .inl (.inl (e _ _ h))
  · exact .inl (.inr ⟨o, e _ _ h⟩)
  · exact .inr h
mutual
theorem Rep.same {K : PySem.W.Frag} {H H' : Hp} (e : Same H H') : ∀ (d : PyData) (x : V), Rep K H d x → Rep K H' d x
  | .none, _, h => h
  | .bool _, _, h => h
  | .int _, _, h => h
  | .str _, _, h => h
  | .list ds, x, h => by
    obtain ⟨a, xs, e1, h1, h2⟩ := h
    exact ⟨a, xs, e1, h1.same e, Reps.same e ds xs h2⟩
  | .tuple ds, x, h => by
    obtain ⟨a, xs, e1, h1, h2⟩ := h
    exact ⟨a, xs, e1, h1.same e, Reps.same e ds xs h2⟩
  | .dict _, _, h => by
    obtain ⟨e1, a, e2, h1⟩ := h
    refine ⟨e1, a, e2, ?_⟩
    rcases h1 with h1 | ⟨o, h1⟩
    · exact .inl (e _ _ h1)
    · exact .inr ⟨o, e _ _ h1⟩
theorem Reps.same {K : PySem.W.Frag} {H H' : Hp} (e : Same H H') : ∀ (ds : List PyData) (xs : List V), Reps K H ds xs → Reps K H' ds xs
  | [], _, h => h
  | d :: ds, xs, h => by
    obtain ⟨x, r, e1, h1, h2⟩ := h
    exact ⟨x, r, e1, Rep.same e d x h1, Reps.same e ds r h2⟩
end
theorem Reps.length {K : PySem.W.Frag} {H : Hp} : ∀ {ds : List PyData} {xs : List V}, Reps K H ds xs → ds.length = xs.length
  | [], xs, h => by
    cases (show xs = [] from h)
    rfl
  | d :: ds, _, h => by
    obtain ⟨x, r, rfl, _, h2⟩ := h
    rw [List.length_cons, List.length_cons, h2.length]
theorem Reps.get {K : PySem.W.Frag} {H : Hp} : ∀ {ds : List PyData} {xs : List V} (i : Nat) {x : V}, Reps K H ds xs → xs[i]? = some x → ∃ d, ds[i]? = some d ∧ Rep K H d x
  | [], _, i, x, h, e => by
    rw [show _ = _ from h] at e
    cases e
  | d :: ds, _, i, x, h, e => by
    obtain ⟨y, r, rfl, h1, h2⟩ := h
    cases i with
    | zero =>
      cases e
      exact ⟨d, rfl, h1⟩
    | succ i =>
      obtain ⟨d', e', h'⟩ := h2.get i (x := x) (by simpa using e)
      exact ⟨d', by simpa using e', h'⟩
theorem Reps.snoc {K : PySem.W.Frag} {H : Hp} : ∀ {ds : List PyData} {xs : List V} {d : PyData} {x : V}, Reps K H ds xs → Rep K H d x → Reps K H (ds ++ [d]) (xs ++ [x])
  | [], _, d, x, h, h' => by
    rw [show _ = _ from h]
    exact ⟨x, [], rfl, h', rfl⟩
  | d0 :: ds, _, d, x, h, h' => by
    obtain ⟨y, r, rfl, h1, h2⟩ := h
    exact ⟨y, r ++ [x], rfl, h1, h2.snoc h'⟩
mutual
theorem Rep.reads {X : Cx} {pins : List (Addr × Obj)} {σ : St} {H : Hp} {s : Shared} (I : Inv X pins σ H s) : ∀ (d : PyData) (x : V) (u : Value), Rep X.K H d x → RelV x u → ∃ as, Reads s.heap u d as
  | .none, x, u, h, r => by
    cases (show x = V.non from h)
    cases r
    exact ⟨_, .none⟩
  | .bool b, x, u, h, r => by
    cases (show x = V.bl b from h)
    cases r
    exact ⟨_, .bool b⟩
  | .int i, x, u, h, r => by
    cases (show x = V.int i from h)
    obtain ⟨t, rfl⟩ := r
    exact ⟨_, .int i t⟩
  | .str z, x, u, h, r => by
    cases (show x = V.str z from h)
    obtain ⟨t, rfl⟩ := r
    exact ⟨_, .str z t⟩
  | .list ds, x, u, h, r => by
    obtain ⟨a, xs, rfl, h1, h2⟩ := h
    cases r
    obtain ⟨its, rv, ⟨o, n, e, c, _, dt⟩, _⟩ := I.list h1
    obtain ⟨as, q⟩ := Reps.reads I ds xs its h2 rv
    exact ⟨_, .list e c dt (by simpa using q)⟩
  | .tuple ds, x, u, h, r => by
    obtain ⟨a, xs, rfl, h1, h2⟩ := h
    cases r
    obtain ⟨its, rv, ⟨o, e, c, n, dt⟩, _⟩ := I.tuple h1
    obtain ⟨as, q⟩ := Reps.reads I ds xs its h2 rv
    exact ⟨_, .tuple e c dt (by simpa using q)⟩
  | .dict kvs, x, u, h, r => by
    obtain ⟨rfl, a, rfl, h1⟩ := h
    cases r
    obtain ⟨_, _, vs, kv, dd⟩ := (show yW X.prog X.w H s.heap a (.dK []) from h1.ok I.hok)
    cases kv
    obtain ⟨o, es, ep, h2, h3, h4, _, h5, _⟩ := dd
    have e0 : es = #[] := by
      have := h5.length
      exact Array.eq_empty_of_size_eq_zero (by simpa using this)
    subst e0
    exact ⟨_, .dict h2 h3.1 h4 .nil .nil⟩
theorem Reps.reads {X : Cx} {pins : List (Addr × Obj)} {σ : St} {H : Hp} {s : Shared} (I : Inv X pins σ H s) : ∀ (ds : List PyData) (xs : List V) (us : List Value), Reps X.K H ds xs → Vals xs us → ∃ as, ReadsAll s.heap us ds as
  | [], xs, us, h, r => by
    cases (show xs = [] from h)
    cases r
    exact ⟨_, .nil⟩
  | d :: ds, xs, us, h, r => by
    obtain ⟨x, xS, rfl, h1, h2⟩ := h
    cases r with
    | cons r1 r2 =>
      obtain ⟨as, q⟩ := Rep.reads I d x _ h1 r1
      obtain ⟨bs, q2⟩ := Reps.reads I ds xS _ h2 r2
      exact ⟨_, .cons q q2⟩
end
section
variable {X : Cx}
noncomputable def JZ (K : PySem.W.Frag) : R2 := fun x y H Q => ∃ d e, Rep K H d x ∧ Rep K H e y ∧ SeqAt.shaped d = true ∧ SeqAt.shaped e = true ∧ Q (.bl (PyData.eqv d e)) H
noncomputable def J0 (K : PySem.W.Frag) : R2 := fun x y H Q => ∃ d e, Rep K H d x ∧ Rep K H e y ∧ SeqAt.shaped d = true ∧ SeqAt.shaped e = true ∧ Q (.bl (!PyData.eqv d e)) H
theorem zcs (hu : X.A.units + 64 < cLine) : OpR X (compareOp .Eq) (JZ X.K) := by
  intro pins s σ H x y v u Q I rx ry h
  obtain ⟨d, e, h1, h2, s1, s2, q⟩ := h
  obtain ⟨as, r1⟩ := Rep.reads I d x v h1 rx
  obtain ⟨bs, r2⟩ := Rep.reads I e y u h2 ry
  exact eq_dataH r1 r2 s1 s2 hu ⟨.bl _, H, I, rfl, q⟩
theorem zct (hu : X.A.units + 64 < cLine) : OpR X (compareOp .NotEq) (J0 X.K) := by
  intro pins s σ H x y v u Q I rx ry h
  obtain ⟨d, e, h1, h2, s1, s2, q⟩ := h
  obtain ⟨as, r1⟩ := Rep.reads I d x v h1 rx
  obtain ⟨bs, r2⟩ := Rep.reads I e y u h2 ry
  exact ne_dataH r1 r2 s1 s2 hu ⟨.bl _, H, I, rfl, q⟩
end
end L2
namespace L2
open PySem PySem.Spec PyProof.Rows
noncomputable def Xk : Expr → Bool
  | .Starred .. => false
  | _ => true
theorem YD {e : Expr} {es : List Expr} {env : Env} (h : Xk e = true) : starEach (e :: es) env = (false, eval e env) :: starEach es env := by
  cases e <;> first | rfl | cases h
structure QA (X : Cx) (es : List Expr) (t : TA) : Prop where
  pa : PA X es t
theorem qn {X : Cx} : QA X [] jq := ⟨zcj⟩
theorem qc {X : Cx} {e : Expr} {es : List Expr} {te : TE} {t : TA} (ha : PE X e te) (hr : QA X es t) (h : Xk e = true := by rfl) : QA X (e :: es) (j4 te t) := ⟨za1 ha hr.pa (YD h)⟩
theorem xc {X : Cx} {es : List Expr} {t : TA} {pos : Pos} (h : QA X es t) : PE X (.List es pos) (ZT t) := Xc h.pa
theorem yO {X : Cx} {es : List Expr} {t : TA} {pos : Pos} {k : Nat} (h : QA X es t) : PE X (.Tuple es k pos) (JS t) := zck h.pa
noncomputable def Sm (a : Int) : Prop := -1000000000000 ≤ a ∧ a ≤ 1000000000000
theorem Sm.mulL {a b : Int} (h : Sm a) : ZS a b := .inl ⟨Int.lt_of_lt_of_le (by decide) h.1, Int.lt_of_le_of_lt h.2 (by decide)⟩
theorem Sm.mulR {a b : Int} (h : Sm b) : ZS a b := .inr ⟨Int.lt_of_lt_of_le (by decide) h.1, Int.lt_of_le_of_lt h.2 (by decide)⟩
theorem za9 {a b : Int} (h1 : -1000000000000 ≤ a) (h2 : a ≤ 1000000000000) : ZS a b := Sm.mulL ⟨h1, h2⟩
theorem J1 {a b : Int} (h1 : -1000000000000 ≤ b) (h2 : b ≤ 1000000000000) : ZS a b := Sm.mulR ⟨h1, h2⟩
theorem xL {H : Hp} {p : Addr} {o : HO} (hp : H p = none) : Same H (upd H p o) := fun b u e => by
  rw [zj (yS e hp)]
  exact e
theorem vP {H H' : Hp} {r : Addr} {o : HO} (hs : Same H H') (hr : H r = none) : Same H (upd H' r o) := fun b u e => by
  rw [zj (yS e hr)]
  exact hs b u e
noncomputable def Zb (n : Nat) (g : TG) (tb : TS) (D : Ends) (σ : St) (H : Hp) : Prop := ∃ W : Nat → Nat → St → Hp → Prop, (∃ m, W 0 m σ H) ∧ ∀ i m σ H, W i m σ H →
  ((Itr 0 n).stop i H ∧ D.nx σ H) ∨ ((Itr 0 n).go i H ∧ ∃ N : St → Hp → Prop, (∀ σ' H', N σ' H' → ∃ m', m' < m ∧ W (i + 1) m' σ' H') ∧ ∀ x H', (Itr 0 n).yld i H x H' → g x σ H' fun σ2 H2 => tb { D with nx := N, ct := N, bk := D.nx } σ2 H2)
theorem Zb.by {n : Nat} {g : TG} {tb : TS} {D : Ends} {σ : St} {H : Hp} (Pv : Nat → St → Hp → Prop) (h0 : Pv 0 σ H)
    (hs : ∀ i σ H, i < n → Pv i σ H → g (.int i) σ H fun σ2 H2 => tb { D with nx := Pv (i + 1), ct := Pv (i + 1), bk := D.nx } σ2 H2) (hd : ∀ σ H, Pv n σ H → D.nx σ H) : Zb n g tb D σ H :=
  QH (lo := 0) (n := n) Pv h0 (fun i σ H hi p => by rw [Int.zero_add]; exact hs i σ H hi p) hd
theorem Zb.run {n : Nat} {g : TG} {tb : TS} {D : Ends} {σ : St} {H : Hp} (Pv : Nat → St → Hp → Prop) (h0 : Pv 0 σ H)
    (hs : ∀ i σ H, i < n → Pv i σ H → ∀ R : St → Hp → Prop, (∀ σ' H', Pv (i + 1) σ' H' → R σ' H') → g (.int i) σ H fun σ2 H2 => tb { D with nx := R, ct := R, bk := D.nx } σ2 H2) (hd : ∀ σ H, Pv n σ H → D.nx σ H) : Zb n g tb D σ H :=
  Zb.by Pv h0 (fun i σ H hi p => hs i σ H hi p _ fun _ _ z => z) hd
noncomputable def Zc (K : PySem.W.Frag) (a : Addr) (g : TG) (tb : TS) (D : Ends) (σ : St) (H : Hp) : Prop := ∃ W : Nat → Nat → St → Hp → Prop, (∃ m, W 0 m σ H) ∧ ∀ i m σ H, W i m σ H →
  ((Itl K a).stop i H ∧ D.nx σ H) ∨ ((Itl K a).go i H ∧ ∃ N : St → Hp → Prop, (∀ σ' H', N σ' H' → ∃ m', m' < m ∧ W (i + 1) m' σ' H') ∧ ∀ x H', (Itl K a).yld i H x H' → g x σ H' fun σ2 H2 => tb { D with nx := N, ct := N, bk := D.nx } σ2 H2)
theorem Zc.by {K : PySem.W.Frag} {a : Addr} {xs : List V} {g : TG} {tb : TS} {D : Ends} {σ : St} {H : Hp} (Pv : Nat → St → Hp → Prop) (h0 : Pv 0 σ H) (hl : ∀ i σ H, i ≤ xs.length → Pv i σ H → SqL K H a xs)
    (hs : ∀ i x σ H, xs[i]? = some x → Pv i σ H → g x σ H fun σ2 H2 => tb { D with nx := Pv (i + 1), ct := Pv (i + 1), bk := D.nx } σ2 H2) (hd : ∀ σ H, Pv xs.length σ H → D.nx σ H) : Zc K a g tb D σ H :=
  JL Pv h0 hl hs hd
theorem Zc.run {K : PySem.W.Frag} {a : Addr} {xs : List V} {g : TG} {tb : TS} {D : Ends} {σ : St} {H : Hp} (Pv : Nat → St → Hp → Prop) (h0 : Pv 0 σ H) (hl : ∀ i σ H, i ≤ xs.length → Pv i σ H → SqL K H a xs)
    (hs : ∀ i x σ H, xs[i]? = some x → Pv i σ H → ∀ R : St → Hp → Prop, (∀ σ' H', Pv (i + 1) σ' H' → R σ' H') → g x σ H fun σ2 H2 => tb { D with nx := R, ct := R, bk := D.nx } σ2 H2) (hd : ∀ σ H, Pv xs.length σ H → D.nx σ H) : Zc K a g tb D σ H :=
  Zc.by Pv h0 hl (fun i x σ H hi p => hs i x σ H hi p _ fun _ _ z => z) hd
structure FunD (K : PySem.W.Frag) (x qual : Str) (st : Stmt) (ds : List Value) (f : Addr) (fd : FuncData) : Prop where
  ex : ∃ (oc : Value) (od : Option Addr) (kV doc pm : Value) (an : Option Addr) (cdv ct : Value) (osl : Array (Option Value)) (T : Addr) (oT : Obj) (n : Nat),
    fd = PySem.W.fnOf x qual (defArgs st) (defBody st) (defScope st) (.ref T) kV doc pm an cdv ct ∧ K.lookup f = some ⟨oc, od, .func fd, osl⟩ ∧ PySem.W.codeIn K cdv qual = true ∧ K.lookup T = some oT ∧ oT.data = .seq ds.toArray n
  kp : PySem.W.keepIn K (.ref f) = true
section
variable {P : Program} {w : World} {K : PySem.W.Frag} {mg : Str → Option Value} {base : Heap}
theorem FunD.ok {x qual : Str} {st : Stmt} {ds : List Value} {f : Addr} {fd : FuncData} {N ps : List Str} {k : Nat} {sp : Sp} (F : FunD K x qual st ds f fd) (S : FnScope N ps (defScope st)) (len : ∀ vs H Q E, sp vs H Q E → vs.length = ps.length)
    (hbody : ∀ (cdv : Value) (A : Around) (outer : List Env) (s : Shared) (H : Hp) (vs : List V) (Q : VK) (E : XK), Room k (A.deeper (envOfC qual (defScope st) s.heap.objs.size f cdv)) → sp vs H Q E →
      ∃ t, PSs (uh CX0 P w K mg base N qual (defScope st) f cdv A outer s H E).nox (defBody st) t ∧ t { nx := fun _ H' => Q .non H', rt := Q } (L2.start N vs) H) : FnOk P w K mg base CX0 (k + 1) f fd ps sp := by
  obtain ⟨oc, od, kV, doc, pm, an, cdv, ct, osl, T, oT, n, rfl, lk, hcd, _, _⟩ := F.ex
  refine zac lk hcd S len fun A outer s H vs Q E hr hsp => ?_
  obtain ⟨t, h, q⟩ := hbody cdv A outer s H vs Q E hr hsp
  exact ⟨t, h.nox, q⟩
theorem FunD.binds {x qual : Str} {st : Stmt} {ds es : List Value} {f : Addr} {fd : FuncData} {ps : List Str} (F : FunD K x qual st ds f fd)
    (h : ∀ (T : Addr) (kV doc pm : Value) (an : Option Addr) (cdv ct : Value) (us : List Value), (us ++ es).length = ps.length →
      ∃ k, bindArgs (PySem.W.fnOf x qual (defArgs st) (defBody st) (defScope st) (.ref T) kV doc pm an cdv ct) ⟨us, []⟩ = seqItems? (PySem.W.fnOf x qual (defArgs st) (defBody st) (defScope st) (.ref T) kV doc pm an cdv ct).defaults >>= k ∧ k (some ds.toArray) = pure (ps.zip (us ++ es))) : Binds K fd ps es := by
  obtain ⟨oc, od, kV, doc, pm, an, cdv, ct, osl, T, oT, n, rfl, lk, hcd, hT, hd⟩ := F.ex
  intro s us hK hl
  obtain ⟨k, h1, h2⟩ := h T kV doc pm an cdv ct us hl
  exact .of_defaults rfl (hK _ _ hT) hd h1 h2
end
end L2
namespace L2
open PySem PySem.Spec PyProof.Rows
theorem u6 {α : Type} {x : Str} {c : α} : ∀ {l : List (Str × α)}, l.lookup x = some c → (x, c) ∈ l
  | [], h => by cases h
  | (y, d) :: l, h => by
    rw [List.lookup_cons] at h
    cases e : x == y with
    | true =>
      rw [e] at h
      have h1 : x = y := by simpa using e
      have h2 : d = c := Option.some.inj h
      rw [h1, h2]
      exact List.mem_cons_self
    | false =>
      rw [e] at h
      exact List.mem_cons_of_mem _ (u6 h)
noncomputable def ZY (k : Option NameKind) : Bool := match k with
  | some .cell => true
  | some .free => true
  | _ => false
theorem VX {k : Option NameKind} (h : ZY k = true) : k = some .cell ∨ k = some .free := by
  unfold ZY at h
  split at h
  · exact .inl rfl
  · exact .inr rfl
  · cases h
inductive CellsIn (big : List (Str × Addr)) : List (Str × Addr) → Prop
  | nil : CellsIn big []
  | cons {x : Str} {c : Addr} {l : List (Str × Addr)} : big.lookup x = some c → CellsIn big l → CellsIn big ((x, c) :: l)
theorem CellsIn.mem {big : List (Str × Addr)} {x : Str} {c : Addr} : ∀ {l : List (Str × Addr)}, CellsIn big l → (x, c) ∈ l → big.lookup x = some c
  | _, .nil, h => by cases h
  | _, .cons e r, h => by
    rcases List.mem_cons.mp h with z | z
    · cases z
      exact e
    · exact r.mem z
theorem u7 {X : Cx} {N : List Str} {n : Nat} {js : List Nat} {scope : Scope} {cl : List (Str × Addr)} (clos : closureFor scope X.env = pure cl := by rfl) (nocell : (scope.names.all fun y => !(y.2 == .cell)) = true := by rfl) (kind : scope.kind = .function := by rfl)
    (names : (scope.names.all fun y => !(y.2 == .local) || scope.names.lookup y.1 == some .local) = true := by rfl) (cells : CellsIn X.env.cells cl := by repeat' first | exact CellsIn.nil | refine CellsIn.cons rfl ?_)
    (has : ((relabel scope X.env).names.all fun y => !(ZY (some y.2)) || (cl.lookup y.1).isSome) = true := by rfl) (len : n + js.length = N.length := by rfl)
    (free : ((N.drop n).zip js).all (fun p => X.N[p.2]? == some p.1 && ZY (X.env.scope.names.lookup p.1) && ZY ((relabel scope X.env).names.lookup p.1) && (cl.lookup p.1).isSome) = true := by rfl) : LcOk X N n js scope cl where
  clos := clos
  nocell := fun y hy e => by
    have h := List.all_eq_true.mp nocell y hy
    rw [e] at h
    cases h
  kind := kind
  names := fun y hy e => by
    have h := List.all_eq_true.mp names y hy
    rw [e] at h
    simpa using h
  cells := fun x c h => cells.mem (u6 h)
  has := fun x h => by
    have key : ∀ k, (relabel scope X.env).names.lookup x = some k → ZY (some k) = true → ∃ c, cl.lookup x = some c := fun k e hk => by
      have h1 := List.all_eq_true.mp has (x, k) (u6 e)
      rw [hk] at h1
      exact Option.isSome_iff_exists.mp (by simpa using h1)
    rcases h with h | h
    · exact key _ h rfl
    · exact key _ h rfl
  len := len
  free := fun i x h => by
    have hd : (N.drop n)[i]? = some x := by rw [List.getElem?_drop]; exact h
    have hi : i < (N.drop n).length := (List.getElem?_eq_some_iff.mp hd).1
    have hj : i < js.length := by rw [List.length_drop] at hi; omega
    have hz : ((N.drop n).zip js)[i]? = some (x, js[i]) := by
      rw [List.getElem?_zip_eq_some]
      exact ⟨hd, List.getElem?_eq_getElem hj⟩
    have h1 := List.all_eq_true.mp free (x, js[i]) (List.mem_of_getElem? hz)
    simp only [Bool.and_eq_true, beq_iff_eq] at h1
    obtain ⟨⟨⟨a1, a2⟩, a3⟩, a4⟩ := h1
    obtain ⟨c, hc⟩ := Option.isSome_iff_exists.mp a4
    exact ⟨js[i], c, List.getElem?_eq_getElem hj, a1, VX a2, VX a3, hc⟩
noncomputable def LcL (K : PySem.W.Frag) (a : Addr) (g : TG) (tt : TT) (te : TE) (σ0 : St) (H1 : Hp) (Q : VK) : Prop := ∀ D, H1 D = none → ∃ W : Nat → Nat → St → Hp → Prop, (∃ m, W 0 m σ0 (upd H1 D (.lst []))) ∧ ∀ i m σ' H', W i m σ' H' →
  ((Itl K a).stop i H' ∧ Q (.ref D) H') ∨ ((Itl K a).go i H' ∧ ∃ Nx : St → Hp → Prop, (∀ σ2 H2, Nx σ2 H2 → ∃ m', m' < m ∧ W (i + 1) m' σ2 H2) ∧
    ∀ x H2, (Itl K a).yld i H' x H2 → g x σ' H2 fun σ3 H3 => tt σ3 H3 fun ok H4 => if ok = true then te σ3 H4 fun y H5 => ∃ ys, H5 D = some (.lst ys) ∧ ys.length < sizeLine ∧ Nx σ3 (upd H5 D (.lst (ys ++ [y]))) else Nx σ3 H4)
theorem LcL.by {K : PySem.W.Frag} {a : Addr} {xs : List V} {g : TG} {tt : TT} {te : TE} {σ0 : St} {H1 : Hp} {Q : VK} (Pv : Addr → Nat → St → Hp → Prop) (h0 : ∀ D, H1 D = none → Pv D 0 σ0 (upd H1 D (.lst [])))
    (hl : ∀ D i σ H, H1 D = none → i ≤ xs.length → Pv D i σ H → SqL K H a xs)
    (hs : ∀ D i x σ H, H1 D = none → xs[i]? = some x → Pv D i σ H → g x σ H fun σ3 H3 => tt σ3 H3 fun ok H4 => if ok = true then te σ3 H4 fun y H5 => ∃ ys, H5 D = some (.lst ys) ∧ ys.length < sizeLine ∧ Pv D (i + 1) σ3 (upd H5 D (.lst (ys ++ [y]))) else Pv D (i + 1) σ3 H4)
    (hd : ∀ D σ H, H1 D = none → Pv D xs.length σ H → Q (.ref D) H) : LcL K a g tt te σ0 H1 Q := by
  intro D hD
  refine ⟨fun i m σ H => m = xs.length - i ∧ i ≤ xs.length ∧ Pv D i σ H, ⟨xs.length, by simp, Nat.zero_le _, h0 D hD⟩, ?_⟩
  rintro i m σ H ⟨rfl, hi, p⟩
  have q := hl D i σ H hD hi p
  by_cases hlt : i < xs.length
  · refine .inr ⟨⟨xs, xs[i], q, by simp [hlt]⟩, Pv D (i + 1), fun σ' H' p' => ⟨xs.length - (i + 1), by omega, rfl, hlt, p'⟩, fun x H' y => ?_⟩
    obtain ⟨e, y⟩ := y
    subst e
    exact hs D i x σ _ hD (y xs q) p
  · have e : i = xs.length := by omega
    subst e
    exact .inl ⟨⟨xs, q, Nat.le_refl _⟩, hd D σ H hD p⟩
noncomputable def LcR (n0 : Nat) (g : TG) (tt : TT) (te : TE) (σ0 : St) (H1 : Hp) (Q : VK) : Prop := ∀ D, H1 D = none → ∃ W : Nat → Nat → St → Hp → Prop, (∃ m, W 0 m σ0 (upd H1 D (.lst []))) ∧ ∀ i m σ' H', W i m σ' H' →
  ((Itr 0 n0).stop i H' ∧ Q (.ref D) H') ∨ ((Itr 0 n0).go i H' ∧ ∃ Nx : St → Hp → Prop, (∀ σ2 H2, Nx σ2 H2 → ∃ m', m' < m ∧ W (i + 1) m' σ2 H2) ∧
    ∀ x H2, (Itr 0 n0).yld i H' x H2 → g x σ' H2 fun σ3 H3 => tt σ3 H3 fun ok H4 => if ok = true then te σ3 H4 fun y H5 => ∃ ys, H5 D = some (.lst ys) ∧ ys.length < sizeLine ∧ Nx σ3 (upd H5 D (.lst (ys ++ [y]))) else Nx σ3 H4)
theorem LcR.by {n0 : Nat} {g : TG} {tt : TT} {te : TE} {σ0 : St} {H1 : Hp} {Q : VK} (Pv : Addr → Nat → St → Hp → Prop) (h0 : ∀ D, H1 D = none → Pv D 0 σ0 (upd H1 D (.lst [])))
    (hs : ∀ D i σ H, H1 D = none → i < n0 → Pv D i σ H → g (.int i) σ H fun σ3 H3 => tt σ3 H3 fun ok H4 => if ok = true then te σ3 H4 fun y H5 => ∃ ys, H5 D = some (.lst ys) ∧ ys.length < sizeLine ∧ Pv D (i + 1) σ3 (upd H5 D (.lst (ys ++ [y]))) else Pv D (i + 1) σ3 H4)
    (hd : ∀ D σ H, H1 D = none → Pv D n0 σ H → Q (.ref D) H) : LcR n0 g tt te σ0 H1 Q := by
  intro D hD
  refine ⟨fun i m σ H => m = n0 - i ∧ i ≤ n0 ∧ Pv D i σ H, ⟨n0, by simp, Nat.zero_le _, h0 D hD⟩, ?_⟩
  rintro i m σ H ⟨rfl, hi, p⟩
  by_cases hlt : i < n0
  · refine .inr ⟨hlt, Pv D (i + 1), fun σ' H' p' => ⟨n0 - (i + 1), by omega, rfl, hlt, p'⟩, fun x H' y => ?_⟩
    obtain ⟨e, y⟩ := y
    subst e y
    rw [Int.zero_add]
    exact hs D i σ _ hD hlt p
  · have e : i = n0 := by omega
    subst e
    exact .inl ⟨Nat.le_refl _, hd D σ H hD p⟩
end L2
namespace L2
open PySem PySem.Spec PyProof.Rows
noncomputable abbrev Cel := Str × Int
noncomputable abbrev Pict := List (List Cel)
noncomputable def yo (c : Cel) : PyData := .tuple [.str c.1, .int c.2]
noncomputable def zed (r : List Cel) : PyData := .list (r.map yo)
noncomputable def zee (p : Pict) : PyData := .list (p.map zed)
noncomputable def okC (c : Cel) : Prop := PyData.strOk c.1 = true
structure IsPic (p : Pict) (w h : Nat) : Prop where
  hh : p.length = h
  ww : ∀ r ∈ p, r.length = w
  ok : ∀ r ∈ p, ∀ c ∈ r, okC c
  w1 : 1 ≤ w
  w2 : w ≤ 24
  h1 : 1 ≤ h
  h2 : h ≤ 12
theorem Reps.at {K : PySem.W.Frag} {H : Hp} : ∀ {ds : List PyData} {xs : List V} (i : Nat) {d : PyData}, Reps K H ds xs → ds[i]? = some d → ∃ x, xs[i]? = some x ∧ Rep K H d x
  | [], _, i, d, _, e => by cases e
  | d0 :: ds, _, i, d, h, e => by
    obtain ⟨y, r, rfl, h1, h2⟩ := h
    cases i with
    | zero =>
      cases e
      exact ⟨y, rfl, h1⟩
    | succ i =>
      obtain ⟨x, e', h'⟩ := h2.at i (d := d) (by simpa using e)
      exact ⟨x, by simpa using e', h'⟩
section
variable {K : PySem.W.Frag} {H : Hp}
theorem zba (c d : Cel) : PyData.eqv (yo c) (yo d) = decide (c = d) := by
  obtain ⟨x, i⟩ := c
  obtain ⟨y, j⟩ := d
  by_cases h1 : x = y <;> by_cases h2 : i = j <;> simp [yo, PyData.eqv, PyData.eqvAll, h1, h2]
end
noncomputable def uB (H : Hp) : List (Int × Int) → List V → Prop
  | [], xs => xs = []
  | p :: l, xs => ∃ t r, xs = .ref t :: r ∧ H t = some (.tup [.int p.1, .int p.2]) ∧ uB H l r
theorem uB.same {H H' : Hp} (e : ∀ b xs, H b = some (.tup xs) → H' b = some (.tup xs)) : ∀ {l : List (Int × Int)} {xs : List V}, uB H l xs → uB H' l xs
  | [], _, h => h
  | p :: l, _, h => by
    obtain ⟨t, r, e1, h1, h2⟩ := h
    exact ⟨t, r, e1, e _ _ h1, h2.same e⟩
theorem uB.length {H : Hp} : ∀ {l : List (Int × Int)} {xs : List V}, uB H l xs → xs.length = l.length
  | [], _, h => by rw [show _ = [] from h]; rfl
  | p :: l, _, h => by
    obtain ⟨t, r, rfl, _, h2⟩ := h
    rw [List.length_cons, List.length_cons, h2.length]
theorem uB.snoc {H : Hp} {p : Int × Int} {t : Addr} (ht : H t = some (.tup [.int p.1, .int p.2])) : ∀ {l : List (Int × Int)} {xs : List V}, uB H l xs → uB H (l ++ [p]) (xs ++ [.ref t])
  | [], _, h => by
    rw [show _ = [] from h]
    exact ⟨t, [], rfl, ht, rfl⟩
  | q :: l, _, h => by
    obtain ⟨u, r, rfl, h1, h2⟩ := h
    exact ⟨u, r ++ [.ref t], rfl, h1, h2.snoc ht⟩
theorem uB.at {H : Hp} : ∀ {l : List (Int × Int)} {xs : List V} (i : Nat) {x : V}, uB H l xs → xs[i]? = some x → ∃ (t : Addr) (p : Int × Int), x = .ref t ∧ H t = some (.tup [.int p.1, .int p.2])
  | [], _, i, x, h, e => by
    rw [show _ = [] from h] at e
    cases e
  | p :: l, _, i, x, h, e => by
    obtain ⟨t, r, rfl, h1, h2⟩ := h
    cases i with
    | zero =>
      cases e
      exact ⟨t, p, rfl, h1⟩
    | succ i => exact h2.at i (by simpa using e)
noncomputable def jv (p : Pict) (i j : Nat) : Cel := (p.getD i []).getD j (Str.ofString "", 0)
theorem J2 {p : Pict} {w h : Nat} (ip : IsPic p w h) {i j : Nat} (hi : i < h) (hj : j < w) : ∃ r, p[i]? = some r ∧ r.length = w ∧ r[j]? = some (jv p i j) ∧ okC (jv p i j) := by
  have hl : i < p.length := by rw [ip.hh]; exact hi
  have hm : p[i] ∈ p := List.getElem_mem hl
  have hw := ip.ww _ hm
  have hj' : j < p[i].length := by rw [hw]; exact hj
  have e : jv p i j = p[i][j] := by
    unfold jv
    have e1 : p.getD i [] = p[i] := by rw [List.getD_eq_getElem?_getD, List.getElem?_eq_getElem hl, Option.getD_some]
    rw [e1, List.getD_eq_getElem?_getD, List.getElem?_eq_getElem hj', Option.getD_some]
  refine ⟨p[i], List.getElem?_eq_getElem hl, hw, ?_, ?_⟩
  · rw [e, List.getElem?_eq_getElem hj']
  · rw [e]
    exact ip.ok _ hm _ (List.getElem_mem hj')
end L2
namespace L2
open PySem PySem.Spec PyProof.Rows
noncomputable def Bld (K : PySem.W.Frag) (H0 H : Hp) (av : List Addr) (r : Addr) (ds : List PyData) : Prop := ∃ G vs, Same H0 G ∧ Same G H ∧ (∀ b ∈ r :: av, G b = none) ∧ H r = some (.lst vs) ∧ Reps K G ds vs
section
variable {K : PySem.W.Frag} {H0 H H1 : Hp} {av : List Addr} {r t l : Addr} {ds es : List PyData} {d : PyData}
theorem Bld.new (hs : Same H0 H) (ha : ∀ b ∈ av, H0 b = none) (hr : H r = none) : Bld K H0 (upd H r (.lst [])) av r [] := by
  refine ⟨H0, [], fun _ _ e => e, vP hs (hs.free hr), fun b hb => ?_, zx, rfl⟩
  rcases List.mem_cons.mp hb with z | z
  · rw [z]
    exact hs.free hr
  · exact ha b z
theorem Bld.same (b : Bld K H0 H av r ds) (hs : Same H H1) : Bld K H0 H1 av r ds := by
  obtain ⟨G, vs, h1, h2, h3, h4, h5⟩ := b
  exact ⟨G, vs, h1, h2.trans hs, h3, hs _ _ h4, h5⟩
theorem Bld.base (b : Bld K H0 H av r ds) : Same H0 H := by
  obtain ⟨G, vs, h1, h2, _⟩ := b
  exact h1.trans h2
theorem Bld.lst (b : Bld K H0 H av r ds) : ∃ vs, H r = some (.lst vs) ∧ vs.length = ds.length := by
  obtain ⟨G, vs, h1, h2, h3, h4, h5⟩ := b
  exact ⟨vs, h4, h5.length.symm⟩
theorem Bld.tup {cs vs : List V} (b : Bld K H0 H av r ds) (hv : H r = some (.lst vs)) (ha : ∀ c ∈ av, ∃ o, H c = some o) (ht : H t = none) (hc : ∀ G, Reps K G es cs) :
    Bld K H0 (upd (upd H t (.tup cs)) r (.lst (vs ++ [.ref t]))) av r (ds ++ [.tuple es]) := by
  obtain ⟨G, ws, h1, h2, h3, h4, h5⟩ := b
  rw [hv] at h4
  cases h4
  have nr : t ≠ r := fun z => by rw [z, hv] at ht; cases ht
  have gt : G t = none := h2.free ht
  refine ⟨upd G t (.tup cs), _, h1.trans (xL gt), fun c o q => ?_, fun c hc' => ?_, zx, ?_⟩
  · by_cases z : c = t
    · rw [z] at q ⊢
      rw [zx] at q
      rw [zj nr, zx]
      exact q
    · rw [zj z] at q
      have nc : c ≠ r := fun y => by rw [y, h3 r List.mem_cons_self] at q; cases q
      rw [zj nc, zj z]
      exact h2 _ _ q
  · have nc : c ≠ t := fun y => by
      rcases List.mem_cons.mp hc' with z | z
      · exact nr (y.symm.trans z)
      · obtain ⟨o, q⟩ := ha c z
        rw [y, ht] at q
        cases q
    rw [zj nc]
    exact h3 c hc'
  · exact (Reps.same (xL gt) _ _ h5).snoc ⟨t, cs, rfl, SqT.of zx, hc _⟩
theorem Bld.row {vs : List V} {G : Hp} (h1 : Same H0 G) (h3 : ∀ b ∈ r :: av, G b = none) (h5 : Reps K G ds vs) (b : Bld K G H (r :: av) l es) (hv : H r = some (.lst vs)) (nl : ∀ c ∈ r :: av, c ≠ l) :
    Bld K H0 (upd H r (.lst (vs ++ [.ref l]))) av r (ds ++ [.list es]) := by
  obtain ⟨G2, us, k1, k2, k3, k4, k5⟩ := b
  have gl : G2 l = none := k3 l List.mem_cons_self
  have nr : l ≠ r := (nl r List.mem_cons_self).symm
  have sn : Same G2 (upd G2 l (.lst us)) := xL gl
  refine ⟨upd G2 l (.lst us), _, (h1.trans k1).trans sn, fun c o q => ?_, fun c hc => ?_, zx, ?_⟩
  · by_cases z : c = l
    · rw [z] at q ⊢
      rw [zx] at q
      rw [zj nr, k4]
      exact q
    · rw [zj z] at q
      have nc : c ≠ r := fun y => by rw [y, k3 r (List.mem_cons_of_mem _ List.mem_cons_self)] at q; cases q
      rw [zj nc]
      exact k2 _ _ q
  · rw [zj (nl c hc)]
    exact k3 c (List.mem_cons_of_mem _ hc)
  · exact (Reps.same (k1.trans sn) _ _ h5).snoc ⟨l, us, rfl, SqL.of zx, Reps.same sn _ _ k5⟩
theorem Bld.done (b : Bld K H0 H av r ds) : Rep K H (.list ds) (.ref r) := by
  obtain ⟨G, vs, h1, h2, h3, h4, h5⟩ := b
  exact ⟨r, vs, rfl, SqL.of h4, Reps.same h2 _ _ h5⟩
end
end L2
namespace L2
open PySem PySem.Spec PyProof.Rows
noncomputable def xO (K : PySem.W.Frag) (H0 H : Hp) (r : Addr) (p : Pict) : Prop := ∃ (G : Hp) (as : List Addr), Same H0 G ∧ Same G H ∧ (∀ a ∈ r :: as, G a = none) ∧ (r :: as).Nodup ∧ H r = some (.lst (as.map V.ref)) ∧ as.length = p.length ∧
  ∀ (i : Nat) row, p[i]? = some row → ∃ a us, as[i]? = some a ∧ H a = some (.lst us) ∧ Reps K G (row.map yo) us
section
variable {K : PySem.W.Frag} {H0 H H1 : Hp} {r b t : Addr} {p : Pict} {row : List Cel}
theorem xO.new (hs : Same H0 H) (hr : H r = none) : xO K H0 (upd H r (.lst [])) r [] := by
  refine ⟨H0, [], fun _ _ e => e, vP hs (hs.free hr), fun b hb => ?_, by simp, zx, rfl, fun i row q => by simp at q⟩
  rw [List.mem_singleton.mp hb]
  exact hs.free hr
theorem xO.same (g : xO K H0 H r p) (hs : Same H H1) : xO K H0 H1 r p := by
  obtain ⟨G, as, h1, h2, h3, h4, h5, h6, h7⟩ := g
  refine ⟨G, as, h1, h2.trans hs, h3, h4, hs _ _ h5, h6, fun i row q => ?_⟩
  obtain ⟨a, us, k1, k2, k3⟩ := h7 i row q
  exact ⟨a, us, k1, hs _ _ k2, k3⟩
theorem xO.base (g : xO K H0 H r p) : Same H0 H := by
  obtain ⟨G, as, h1, h2, _⟩ := g
  exact h1.trans h2
theorem xO.lst (g : xO K H0 H r p) : ∃ vs, H r = some (.lst vs) ∧ vs.length = p.length := by
  obtain ⟨G, as, h1, h2, h3, h4, h5, h6, h7⟩ := g
  exact ⟨_, h5, by rw [List.length_map]; exact h6⟩
theorem xO.put {ys vs : List V} {H2 : Hp} (g : xO K H0 H r p) (hv : H r = some (.lst vs)) (hy : Reps K H0 (row.map yo) ys) (hb : H b = none) (hs : Same H H2) (hb2 : H2 b = some (.lst ys)) : xO K H0 (upd H2 r (.lst (vs ++ [.ref b]))) r (p ++ [row]) := by
  obtain ⟨G, as, h1, h2, h3, h4, h5, h6, h7⟩ := g
  rw [hv] at h5
  have h5 : vs = as.map V.ref := by cases h5; rfl
  subst h5
  have nb : ∀ (c : Addr) (o : HO), H c = some o → c ≠ b := fun c o q z => by
    rw [z, hb] at q
    cases q
  have inH : ∀ c ∈ as, ∃ o, H c = some o := fun c hc => by
    obtain ⟨i, hi, e⟩ := List.getElem_of_mem hc
    obtain ⟨a, us, k1, k2, _⟩ := h7 i _ (List.getElem?_eq_getElem (h6 ▸ hi))
    rw [List.getElem?_eq_getElem hi] at k1
    cases k1
    exact ⟨_, e ▸ k2⟩
  have nr := nb r _ hv
  have nin : b ∉ as := fun z => by
    obtain ⟨o, q⟩ := inH b z
    exact nb b o q rfl
  obtain ⟨n1, n2⟩ := List.nodup_cons.mp h4
  refine ⟨G, as ++ [b], h1, fun c o q => ?_, fun c hc => ?_, ?_, by rw [List.map_append]; exact zx, by simp [h6], fun i y q => ?_⟩
  · have c1 : c ≠ r := fun z => by rw [z, h3 r List.mem_cons_self] at q; cases q
    rw [zj c1]
    exact hs _ _ (h2 _ _ q)
  · rcases List.mem_cons.mp hc with z | z
    · rw [z]
      exact h3 r List.mem_cons_self
    · rcases List.mem_append.mp z with z | z
      · exact h3 c (List.mem_cons_of_mem _ z)
      · rw [List.mem_singleton.mp z]
        exact h2.free hb
  · rw [List.nodup_cons]
    refine ⟨fun z => ?_, List.nodup_append.mpr ⟨n2, by simp, fun x hx y hy z => ?_⟩⟩
    · rcases List.mem_append.mp z with z | z
      · exact n1 z
      · exact nr (List.mem_singleton.mp z)
    · rw [z, List.mem_singleton.mp hy] at hx
      exact nin hx
  · by_cases hi : i < p.length
    · rw [List.getElem?_append_left hi] at q
      obtain ⟨a, us, k1, k2, k3⟩ := h7 i y q
      have ar : a ≠ r := fun z => n1 (z ▸ List.mem_of_getElem? k1)
      exact ⟨a, us, by rw [List.getElem?_append_left (h6 ▸ hi)]; exact k1, by rw [zj ar]; exact hs _ _ k2, k3⟩
    · have e : i = p.length := by
        have := (List.getElem?_eq_some_iff.mp q).1
        simp at this
        omega
      subst e
      simp only [List.getElem?_concat_length, Option.some.injEq] at q
      subst q
      exact ⟨b, ys, by rw [← h6]; simp, by rw [zj nr.symm]; exact hb2, Reps.same h1 _ _ hy⟩
theorem xO.push {ys vs : List V} (g : xO K H0 H r p) (hv : H r = some (.lst vs)) (hy : Reps K H0 (row.map yo) ys) (hb : H b = none) : xO K H0 (upd (upd H b (.lst ys)) r (.lst (vs ++ [.ref b]))) r (p ++ [row]) := g.put hv hy hb (xL hb) zx
theorem Reps.set {G : Hp} : ∀ {ds : List PyData} {xs : List V} (j : Nat) {d : PyData} {x : V}, Reps K G ds xs → Rep K G d x → Reps K G (ds.set j d) (xs.set j x)
  | [], _, j, d, x, h, _ => by
    rw [show _ = [] from h]
    rfl
  | d0 :: ds, _, j, d, x, h, h' => by
    obtain ⟨y, q, rfl, h1, h2⟩ := h
    cases j with
    | zero => exact ⟨x, q, rfl, h', h2⟩
    | succ j => exact ⟨y, _, rfl, h1, h2.set j h'⟩
theorem zbb {c : Cel} {u : V} (h : Rep K H (yo c) u) : ∃ t, u = .ref t ∧ SqT K H t [.str c.1, .int c.2] := by
  obtain ⟨t, xs, rfl, h1, x1, q1, rfl, e1, x2, q2, rfl, e2, e3⟩ := h
  cases e1
  cases e2
  cases e3
  exact ⟨t, rfl, h1⟩
theorem xO.cell {i j : Nat} {c : Cel} (g : xO K H0 H r p) (hi : p[i]? = some row) (hj : row[j]? = some c) : ∃ vs a us t, H r = some (.lst vs) ∧ atI vs (i : Int) = some (.ref a) ∧ H a = some (.lst us) ∧ us.length = row.length ∧ atI us (j : Int) = some (.ref t) ∧ SqT K H t [.str c.1, .int c.2] ∧
    ∀ H2 t2 z n, Same H H2 → H2 t2 = none → xO K H0 (upd (upd H2 t2 (.tup [.str z, .int n])) a (.lst (us.set j (.ref t2)))) r (p.set i (row.set j (z, n))) := by
  obtain ⟨G, as, h1, h2, h3, h4, h5, h6, h7⟩ := g
  obtain ⟨a, us, k1, k2, k3⟩ := h7 i row hi
  obtain ⟨u, hu, ru⟩ := k3.at j (d := yo c) (by rw [List.getElem?_map, hj]; rfl)
  obtain ⟨t, rfl, ht⟩ := zbb (Rep.same h2 _ _ ru)
  obtain ⟨n1, n2⟩ := List.nodup_cons.mp h4
  have am : a ∈ as := List.mem_of_getElem? k1
  have ar : a ≠ r := fun z => n1 (z ▸ am)
  refine ⟨_, a, us, t, h5, vN (by rw [List.getElem?_map, k1]; rfl), k2, by rw [← k3.length, List.length_map], vN hu, ht, fun H2 t2 z n hs ht2 => ?_⟩
  have nt : ∀ (b : Addr) (o : HO), H2 b = some o → b ≠ t2 := fun b o q y => by
    rw [y, ht2] at q
    cases q
  have gt : G t2 = none := (h2.trans hs).free ht2
  have sn : Same G (upd G t2 (.tup [.str z, .int n])) := xL gt
  refine ⟨upd G t2 (.tup [.str z, .int n]), as, h1.trans sn, fun b o q => ?_, fun b hb => ?_, h4, ?_, by rw [List.length_set]; exact h6, fun i' y q => ?_⟩
  · have na : b ≠ a := fun y => by
      rw [y] at q
      by_cases w : a = t2
      · exact nt a _ (hs _ _ k2) w
      · rw [zj w, h3 a (List.mem_cons_of_mem _ am)] at q
        cases q
    rw [zj na]
    by_cases w : b = t2
    · rw [w] at q ⊢
      rw [zx] at q ⊢
      exact q
    · rw [zj w] at q ⊢
      exact hs _ _ (h2 _ _ q)
  · have nb : b ≠ t2 := by
      rcases List.mem_cons.mp hb with y | y
      · rw [y]
        exact nt r _ (hs _ _ h5)
      · obtain ⟨k, hk, e⟩ := List.getElem_of_mem y
        obtain ⟨a', us', m1, m2, _⟩ := h7 k _ (List.getElem?_eq_getElem (h6 ▸ hk))
        rw [List.getElem?_eq_getElem hk] at m1
        cases m1
        rw [← e]
        exact nt _ _ (hs _ _ m2)
    rw [zj nb]
    exact h3 b hb
  · rw [zj ar.symm, zj (nt r _ (hs _ _ h5))]
    exact hs _ _ h5
  · by_cases e : i' = i
    · subst e
      have hl : i' < p.length := (List.getElem?_eq_some_iff.mp hi).1
      rw [List.getElem?_set_self hl] at q
      cases q
      refine ⟨a, _, k1, zx, ?_⟩
      rw [List.map_set]
      exact (Reps.same sn _ _ k3).set j ⟨t2, _, rfl, SqT.of zx, .str z, _, rfl, rfl, .int n, [], rfl, rfl, rfl⟩
    · rw [List.getElem?_set_ne (Ne.symm e)] at q
      obtain ⟨a', us', m1, m2, m3⟩ := h7 i' y q
      have na : a' ≠ a := fun w => by
        rw [w] at m1
        have l1 := (List.getElem?_eq_some_iff.mp m1)
        have l2 := (List.getElem?_eq_some_iff.mp k1)
        exact e ((List.getElem_inj n2).mp (l1.2.trans l2.2.symm))
      exact ⟨a', us', m1, by rw [zj na, zj (nt a' _ (hs _ _ m2))]; exact hs _ _ m2, Reps.same sn _ _ m3⟩
theorem xO.done (g : xO K H0 H r p) : Rep K H (zee p) (.ref r) := by
  obtain ⟨G, as, h1, h2, h3, h4, h5, h6, h7⟩ := g
  refine ⟨r, _, rfl, SqL.of h5, ?_⟩
  clear h5 h4 h3
  induction p generalizing as with
  | nil =>
    cases as with
    | nil => rfl
    | cons _ _ => cases h6
  | cons y p ih =>
    cases as with
    | nil => cases h6
    | cons a as =>
      obtain ⟨a', us, k1, k2, k3⟩ := h7 0 y rfl
      cases k1
      exact ⟨.ref a, as.map V.ref, rfl, ⟨a, us, rfl, SqL.of k2, Reps.same h2 _ _ k3⟩, ih as (by simpa using h6) fun i z q => h7 (i + 1) z (by simpa using q)⟩
end
end L2
namespace L2
open PySem PySem.Spec PyProof.Rows
noncomputable def rLo (K : PySem.W.Frag) : List V → Hp → VK → Prop := fun xs H Q => ∃ p ys, xs = [.ref p] ∧ (SqL K H p ys ∨ SqT K H p ys) ∧ ∀ l : Addr, H l = none → Q (.ref l) (upd H l (.lst ys))
section
variable {X : Cx} {K : PySem.W.Frag}
theorem UF (h : X.K = K) : y9 X (.type "list") (rLo K) := by
  subst h
  exact Xh
theorem QV (h : X.K = K) : SlR X (JW K) := by
  subst h
  exact za7
theorem xa (h : X.K = K) : IxR X (UB K) := by
  subst h
  exact za6
end
end L2
namespace L2
open PySem PySem.Spec PyProof.Rows
noncomputable def J3 (K : PySem.W.Frag) : R2 := fun x y H Q => ∃ l b xs zs, x = .ref l ∧ y = .ref b ∧ SqL K H l xs ∧ SqL K H b zs ∧ xs.length + zs.length ≤ sizeLine ∧ ∀ p, H p = none → Q (.ref p) (upd H p (.lst (xs ++ zs)))
theorem Zd {X : Cx} {K : PySem.W.Frag} (hK : X.K = K) : OpR X (binaryOp .Add) (J3 K) := by
  subst hK
  intro pins s σ H x y v u Q I rx ry h
  obtain ⟨l, b, xs, zs, rfl, rfl, hH, hB, hz, q⟩ := h
  cases rx
  cases ry
  obtain ⟨its, r, ⟨o1, n1, e1, c1, d1, m1⟩, z1⟩ := I.list hH
  obtain ⟨ita, r2, ⟨o2, n2, e2, c2, d2, m2⟩, z2⟩ := I.list hB
  obtain ⟨g1, g2, g3, g4⟩ := o1
  obtain ⟨f1, f2, f3, f4⟩ := o2
  simp only at c1 d1 m1 c2 d2 m2
  subst c1 d1 m1 c2 d2 m2
  have hs : its.length + ita.length ≤ sizeLine := by
    rw [← r.length, ← r2.length]
    exact hz
  have ea : its.toArray ++ ita.toArray = (its ++ ita).toArray := by simp
  refine concat_meets ⟨_, e1, rfl⟩ ⟨_, e2, rfl⟩ noFill_list_add seq_list_add F.slot_list_add F.entry_list_add (F.args_list_add_2 _ _) (list_addW l b its.toArray ita.toArray n1 n2 none none g4 f4 (by simpa using hs)) ⟨e1, e2, ?_⟩
  rw [ea]
  exact ⟨.ref _, _, I.lnew (t' := s.toks) (r.append r2) (by rw [List.length_append]; omega), rfl, q _ I.fresh⟩
theorem Reps.drop {K : PySem.W.Frag} {H : Hp} : ∀ {ds : List PyData} {xs : List V} (k : Nat), Reps K H ds xs → Reps K H (ds.drop k) (xs.drop k)
  | [], _, k, h => by
    rw [show _ = [] from h]
    simp only [List.drop_nil]
    rfl
  | d :: ds, _, k, h => by
    obtain ⟨y, q, rfl, h1, h2⟩ := h
    cases k with
    | zero => exact ⟨y, q, rfl, h1, h2⟩
    | succ k => exact h2.drop k
theorem Reps.take {K : PySem.W.Frag} {H : Hp} : ∀ {ds : List PyData} {xs : List V} (k : Nat), Reps K H ds xs → Reps K H (ds.take k) (xs.take k)
  | [], _, k, h => by
    rw [show _ = [] from h]
    simp only [List.take_nil]
    rfl
  | d :: ds, _, k, h => by
    obtain ⟨y, q, rfl, h1, h2⟩ := h
    cases k with
    | zero => rfl
    | succ k => exact ⟨y, _, rfl, h1, h2.take k⟩
theorem Reps.append {K : PySem.W.Frag} {H : Hp} : ∀ {ds es : List PyData} {xs ys : List V}, Reps K H ds xs → Reps K H es ys → Reps K H (ds ++ es) (xs ++ ys)
  | [], _, _, _, h, h' => by
    rw [show _ = [] from h]
    exact h'
  | d :: ds, _, _, _, h, h' => by
    obtain ⟨y, q, rfl, h1, h2⟩ := h
    exact ⟨y, _, rfl, h1, h2.append h'⟩
theorem IsPic.tail {p : Pict} {w h : Nat} (ip : IsPic p w h) (h2 : 1 < h) : IsPic (p.drop 1) w (h - 1) :=
  ⟨by rw [List.length_drop, ip.hh], fun r hr => ip.ww r (List.mem_of_mem_drop hr), fun r hr => ip.ok r (List.mem_of_mem_drop hr), ip.w1, ip.w2, by omega, by have := ip.h2; omega⟩
theorem IsPic.more {p : Pict} {w h : Nat} (ip : IsPic p w h) (h2 : h < 12) : IsPic (p ++ p.take 1) w (h + 1) := by
  have hm : ∀ r, r ∈ p ++ p.take 1 → r ∈ p := fun r hr => (List.mem_append.mp hr).elim id List.mem_of_mem_take
  have := ip.h1
  exact ⟨by rw [List.length_append, List.length_take, ip.hh]; omega, fun r hr => ip.ww r (hm r hr), fun r hr => ip.ok r (hm r hr), ip.w1, ip.w2, by omega, by omega⟩
theorem IsPic.rows {p : Pict} {w h w' : Nat} (g : List Cel → List Cel) (ip : IsPic p w h) (hg : ∀ r ∈ p, (g r).length = w') (hm : ∀ r c, c ∈ g r → c ∈ r) (h1 : 1 ≤ w') (h2 : w' ≤ 24) : IsPic (p.map g) w' h := by
  refine ⟨by rw [List.length_map, ip.hh], fun r hr => ?_, fun r hr c hc => ?_, h1, h2, ip.h1, ip.h2⟩
  · obtain ⟨y, hy, rfl⟩ := List.mem_map.mp hr
    exact hg y hy
  · obtain ⟨y, hy, rfl⟩ := List.mem_map.mp hr
    exact ip.ok y hy c (hm y c hc)
noncomputable def zae (p : Pict) (h w : Nat) : Pict := (List.range w).map fun c => (List.range h).map fun i => jv p i c
theorem IsPic.turn {p : Pict} {w h : Nat} (ip : IsPic p w h) (hw : w ≤ 12) : IsPic (zae p h w) h w := by
  refine ⟨by simp [zae], fun r hr => ?_, fun r hr c hc => ?_, ip.h1, by have := ip.h2; omega, ip.w1, hw⟩
  · obtain ⟨y, _, rfl⟩ := List.mem_map.mp hr
    simp
  · obtain ⟨y, hy, rfl⟩ := List.mem_map.mp hr
    obtain ⟨i, hi, rfl⟩ := List.mem_map.mp hc
    obtain ⟨_, _, _, _, ok⟩ := J2 ip (List.mem_range.mp hi) (List.mem_range.mp hy)
    exact ok
end L2
namespace L2
open PySem PySem.Spec PyProof.Rows
noncomputable def Fly (h : Heap) (e C : Addr) (fp : List Addr) : Prop := ∃ oe vs, h.get? e = some oe ∧ (oe.cls = .ref C ∧ oe.dict = none) ∧ oe.data = .fields vs ∧ 1 < vs.size ∧
  ((vs[1]? = some .none ∧ fp = [e]) ∨ ∃ T oT ts, vs[1]? = some (.ref T) ∧ T ≠ e ∧ h.get? T = some oT ∧ oT.data = .fields ts ∧ ts[3]? = some .none ∧ fp = [e, T])
theorem Fly.mem {h : Heap} {e C : Addr} {fp : List Addr} (F : Fly h e C fp) : ∀ b ∈ fp, ∃ o vs, h.get? b = some o ∧ o.data = .fields vs := by
  obtain ⟨oe, vs, he, _, hd, _, ⟨_, rfl⟩ | ⟨T, oT, ts, _, _, hT, hdT, _, rfl⟩⟩ := F
  · intro b hb
    cases List.mem_singleton.mp hb
    exact ⟨oe, vs, he, hd⟩
  · intro b hb
    rcases List.mem_cons.mp hb with rfl | hb
    · exact ⟨oe, vs, he, hd⟩
    · cases List.mem_singleton.mp hb
      exact ⟨oT, ts, hT, hdT⟩
theorem Fly.self {h : Heap} {e C : Addr} {fp : List Addr} (F : Fly h e C fp) : e ∈ fp := by
  obtain ⟨_, _, _, _, _, _, ⟨_, rfl⟩ | ⟨_, _, _, _, _, _, _, _, rfl⟩⟩ := F <;> exact List.mem_cons_self
theorem Fly.keep {h h' : Heap} {e C : Addr} {fp : List Addr} (F : Fly h e C fp) (k : ∀ b ∈ fp, ∀ o, h.get? b = some o → h'.get? b = some o) : Fly h' e C fp := by
  have hs := F.self
  obtain ⟨oe, vs, he, hc, hd, hz, h1 | ⟨T, oT, ts, h1, h2, hT, hdT, h3, rfl⟩⟩ := F
  · exact ⟨oe, vs, k _ hs _ he, hc, hd, hz, .inl h1⟩
  · exact ⟨oe, vs, k _ hs _ he, hc, hd, hz, .inr ⟨T, oT, ts, h1, h2, k _ (by simp) _ hT, hdT, h3, rfl⟩⟩
section
variable {M : Model} {A : Around} {E : Value → Shared → Prop} {s : Shared}
structure Noted (fs fp : List Addr) (h h' : Heap) : Prop where
  keep : ∀ b o, h.get? b = some o → b ∉ fp → b ∉ fs → h'.get? b = some o
  slot : ∀ b o, h.get? b = some o → b ∉ fp → ∃ sl, h'.get? b = some { o with slots := sl }
  there : ∀ b o, h.get? b = some o → ∃ o', h'.get? b = some o'
theorem Noted.size {fs fp : List Addr} {h h' : Heap} (n : Noted fs fp h h') (hp : h'.objs.size < h.objs.size → False) : h.objs.size ≤ h'.objs.size := Nat.not_lt.mp hp
end
noncomputable def CX1 (P : Program) (w : World) : CXT := fun outer H s E ev s' => ∃ e C fp H', ev = .ref e ∧ Fly s'.heap e C fp ∧ (∀ b ∈ fp, s.heap.get? b = none ∧ H' b = none) ∧ s'.os = s.os ∧ AllBare s'.gens ∧ Un (frs outer) [] H H' s.heap s'.heap ∧ HOk P w H' s'.heap ∧ E (.ref C) none H'
noncomputable def FpX (X : Cx) (pins : List (Addr × Obj)) (H : Hp) (b : Addr) : Prop :=
  H b = none ∧ b ≠ X.env.locals ∧ b ∉ X.fs ∧ (b ∈ X.ex ∨ X.s₀.heap.get? b = none) ∧ (∀ x c, X.env.cells.lookup x = some c → c ≠ b) ∧ ∀ p ∈ X.pn ++ pins, p.1 ≠ b
theorem Inv.fpX {X : Cx} {pins : List (Addr × Obj)} {σ : St} {H H' : Hp} {s : Shared} {b : Addr} (I : Inv X pins σ H s) (hb : s.heap.get? b = none) (hn : H' b = none) : FpX X pins H' b := by
  have no : ∀ c o, s.heap.get? c = some o → c ≠ b := fun c o q z => by
    rw [z, hb] at q
    cases q
  refine ⟨hn, fun z => ?_, fun z => ?_, ?_, fun x c q => ?_, fun p hp => no _ _ (I.pin p hp).1⟩
  · obtain ⟨m, ⟨o, _, _, ho, _⟩, _⟩ := I.loc
    exact no _ _ ho z.symm
  · obtain ⟨_, o, ho, _⟩ := I.funs.mem z
    exact no _ _ ho rfl
  · by_cases hx : b ∈ X.ex
    · exact .inl hx
    · refine .inr ?_
      cases q : X.s₀.heap.get? b with
      | none => rfl
      | some o =>
        obtain ⟨o', q'⟩ := I.base.there b o q hx
        exact absurd rfl (no _ _ q')
  · obtain ⟨v, o, ho, _⟩ := I.cell x c q
    exact no _ _ ho
noncomputable def Up (X : Cx) (W : XK) (ev : Value) (s' : Shared) : Prop := ∃ pins σ H e C fp, ev = .ref e ∧ Inv X pins σ H s' ∧ Fly s'.heap e C fp ∧ (∀ b ∈ fp, FpX X pins H b) ∧ W (.ref C) none H
noncomputable def zaf (X : Cx) (W : XK) : Prop := ∀ ev s', Up X W ev s' → X.xe ev s'
theorem zaf.passes {X : Cx} {W : XK} (L : zaf X W) : uA (CX1 X.prog X.w) X W := by
  rintro pins σ H s ev s' I ⟨e, C, fp, H', rfl, F, hf, os, bare, un, hok, hw⟩
  have I' : Inv X pins σ H' s' := I.call' (ch := []) os un hok bare fun b z => absurd z (by simp)
  exact L _ _ ⟨pins, σ, H', e, C, fp, rfl, I', F, fun b hb => I.fpX (H' := H') (hf b hb).1 (hf b hb).2, hw⟩
end L2
namespace L2
open PySem PySem.W PySem.Spec PySem.Calls PyProof.Rows
section
variable {prog : Program} {w : World} {A : Around} {E : Value → Shared → Prop} {s : Shared} {K : PySem.W.Frag} {e C : Addr} {oe : Obj}
end
end L2
namespace L2
open PySem PySem.W PySem.Spec PySem.Calls PyProof.Rows
structure XMake (K : PySem.W.Frag) (C : Addr) : Prop where
  ex : ∃ B nid iid bmB, ExcBaseFacts B nid iid bmB ∧ excIn K C bmB nid = true
theorem XMake.obj {K : PySem.W.Frag} {C : Addr} {h : Heap} (m : XMake K C) (X : K.In h) : ∃ B nid iid bmB, ExcBaseFacts B nid iid bmB ∧ ∃ bm ns nm qn bs hd sn sub ab col dd k0 k1 k2 k3 k5 mN,
    h.get? C = some (excClassObj nm qn C ns bs bm hd sn sub ab col dd k0 k1 k2 k3 k5 nid) ∧ h.Ns ns mN ∧ mN "__init__" = none ∧ OwnTail h bmB bm := by
  obtain ⟨B, nid, iid, bmB, F, z⟩ := m.ex
  refine ⟨B, nid, iid, bmB, F, ?_⟩
  unfold excIn at z
  split at z
  · rename_i d0 c0 s0 lk0
    split at z
    · rename_i A0 tl j0 j1 j2 j3 nm0 j5 hm0 hs0
      rw [Bool.and_eq_true, Bool.and_eq_true, Bool.and_eq_true, Bool.and_eq_true, Bool.and_eq_true] at z
      obtain ⟨⟨⟨⟨⟨z1, z2⟩, z3⟩, z4⟩, z5⟩, z6⟩ := z
      rw [beq_iff_eq.mp z1] at hm0
      rw [beq_iff_eq.mp z2] at hs0
      obtain ⟨n0, b0, r0, y0, q0, h0, t0, u0, a0, l0, del0⟩ := c0
      have e3 : del0 = false := by simpa using z3
      have e1 : r0 = .ref C :: tl := hm0
      have e2 : s0 = #[j0, j1, j2, j3, some (.builtin nid), j5] := by
        cases s0
        exact congrArg Array.mk hs0
      subst e1 e2 e3
      have g1 := Heap.Ns.of_isNs (isNs_of_in X z5)
      have g2 := nsMap_none_of_in X z5 (beq_iff_eq.mp z6)
      exact ⟨tl, y0, n0, q0, b0, h0, t0, u0, a0, l0, d0, j0, j1, j2, j3, j5, _, X _ _ lk0, g1, g2, tail_of_in X z4⟩
    · cases z
  · cases z
end L2
namespace L2
open PySem PySem.W PySem.Spec PySem.Calls PyProof.Rows
noncomputable abbrev Cx.suite (X : Cx) (pins : List (Addr × Obj)) (e : Addr) : Cx := { X with A := X.A.mark (some (.ref e)), calm := false, pn := X.pn ++ pins, xe := fun _ _ => False }
section
variable {X : Cx} {pins ps : List (Addr × Obj)} {σ : St} {H : Hp} {s : Shared} {Z : Value → Shared → Prop} {e : Addr}
theorem Inv.suite (I : Inv X pins σ H s) (e : Addr) (hz : (X.A.mark (some (.ref e))).frames = X.A.frames) : Inv (X.suite pins e) [] σ H s :=
  ⟨⟨I.ok.mod, I.ok.kind, I.ok.glob, I.ok.blt, I.ok.above, I.ok.inj, I.ok.has, I.ok.cab, fun z => (Bool.noConfusion z), hz.trans I.ok.frames, I.ok.stk, I.ok.exf, I.ok.bs, I.ok.bsz, I.ok.noex, I.ok.exfs, I.ok.funs, I.ok.frf⟩,
    I.os, I.bare, I.base, I.loc, I.cell, I.free, I.freeC, fun p hp => I.pin p (by simpa using hp), I.hok, I.len⟩
end
end L2
namespace L2
open PySem PySem.Spec PyProof.Rows
noncomputable def zdB (X : Cx) (N : List Str) (scope : Scope) (cl : List (Str × Addr)) (y : Str) (C : Addr) (s : Shared) (H : Hp) (fp : List Addr) : Cx :=
  { xg X N scope cl C s H fp with env := compEnvC scope ((y, C + 1) :: cl) C X.env, fn := fun x => x == y }
structure LcOkC (X : Cx) (N : List Str) (n : Nat) (js : List Nat) (scope : Scope) (cl : List (Str × Addr)) (y : Str) : Prop where
  clos : closureFor scope X.env = pure cl
  one : ∀ k, cellsFrom k scope.names cl = (y, k) :: cl
  onep : ∀ h : Heap, pushCells h scope.names = h.push { cls := .type "cell", data := .cell none }
  kind : scope.kind = .function
  names : ∀ y ∈ scope.names, y.2 = .local → scope.names.lookup y.1 = some .local
  cells : ∀ x c, cl.lookup x = some c → X.env.cells.lookup x = some c
  has : ∀ x, ((relabel scope X.env).names.lookup x = some .cell ∨ (relabel scope X.env).names.lookup x = some .free) → x = y ∨ ∃ c, cl.lookup x = some c
  len : n + js.length = N.length
  free : ∀ (i : Nat) (x : Str), N[n + i]? = some x → ∃ j c, js[i]? = some j ∧ X.N[j]? = some x ∧ (X.env.scope.names.lookup x = some .cell ∨ X.env.scope.names.lookup x = some .free) ∧
    ((relabel scope X.env).names.lookup x = some .cell ∨ (relabel scope X.env).names.lookup x = some .free) ∧ cl.lookup x = some c ∧ x ≠ y
theorem kB {cl : List (Str × Addr)} {y x : Str} {k c : Addr} (h : List.lookup x ((y, k) :: cl) = some c) : (x = y ∧ c = k) ∨ cl.lookup x = some c := by
  rw [List.lookup_cons] at h
  cases q : x == y with
  | true =>
    rw [q] at h
    exact .inl ⟨beq_iff_eq.mp q, (Option.some.inj h).symm⟩
  | false =>
    rw [q] at h
    exact .inr h
theorem J4 {cl : List (Str × Addr)} {y x : Str} {k : Addr} (h : x ≠ y) : List.lookup x ((y, k) :: cl) = cl.lookup x := by
  rw [List.lookup_cons, beq_eq_false_iff_ne.mpr h]
theorem kC {cl : List (Str × Addr)} {y : Str} {k : Addr} : List.lookup y ((y, k) :: cl) = some k := by
  rw [List.lookup_cons, beq_self_eq_true]
section
variable {X : Cx} {pins : List (Addr × Obj)} {σ : St} {H : Hp} {s : Shared} {N : List Str} {n : Nat} {js : List Nat} {scope : Scope} {cl : List (Str × Addr)} {y : Str}
theorem LcOkC.far (L : LcOkC X N n js scope cl y) {fp : List Addr} {C b c : Addr} {x : Str} {z : Nat} (hf : ∀ b ∈ fp, FpOk X pins H b) (hlt : b < z) (hb : b ∈ fp) (hC : z ≤ C) (e : List.lookup x ((y, C + 1) :: cl) = some c) : c ≠ b := by
  rcases kB e with ⟨_, q⟩ | q
  · rw [q]
    exact Nat.ne_of_gt (Nat.lt_of_lt_of_le hlt (Nat.le_succ_of_le hC))
  · exact (hf b hb).2.2.2.2.1 x c (L.cells x c q)
theorem LcOkC.low (L : LcOkC X N n js scope cl y) (I : Inv X pins σ H s) {x : Str} {c : Addr} (e : cl.lookup x = some c) : c < s.heap.objs.size := by
  obtain ⟨v, o, ho, _⟩ := I.cell x c (L.cells x c e)
  exact Heap.lt_size ho
theorem LcOkC.ok (L : LcOkC X N n js scope cl y) (I : Inv X pins σ H s) {fp : List Addr} (hf : ∀ b ∈ fp, FpOk X pins H b) (hlt : ∀ b ∈ fp, b < s.heap.objs.size) {C : Addr} (hC : s.heap.objs.size ≤ C) : (zdB X N scope cl y C s H fp).Ok where
  mod := I.ok.mod
  kind := L.kind
  glob := I.ok.glob
  blt := I.ok.blt
  above := hC
  inj := fun x x' c h1 h2 => by
    rcases kB h1 with ⟨e1, q1⟩ | q1 <;> rcases kB h2 with ⟨e2, q2⟩ | q2
    · rw [e1, e2]
    · exact absurd (Nat.lt_of_lt_of_le (L.low I q2) hC) (by rw [q1]; exact Nat.not_lt.mpr (Nat.le_succ C))
    · exact absurd (Nat.lt_of_lt_of_le (L.low I q1) hC) (by rw [q2]; exact Nat.not_lt.mpr (Nat.le_succ C))
    · exact I.ok.inj x x' c (L.cells x c q1) (L.cells x' c q2)
  has := fun x hx => by
    rcases L.has x hx with e | ⟨c, e⟩
    · rw [e]
      exact ⟨_, kC⟩
    · by_cases q : x = y
      · rw [q]
        exact ⟨_, kC⟩
      · exact ⟨c, (J4 q).trans e⟩
  cab := fun x c hx e => by
    have hx : x = y := beq_iff_eq.mp hx
    rw [hx] at e
    cases (kC.symm.trans e)
    exact Nat.le_succ_of_le hC
  hd := I.ok.hd
  frames := I.ok.frames
  stk := .inl rfl
  exf := fun b hb => ⟨Nat.ne_of_lt (Nat.lt_of_lt_of_le (hlt b hb) hC), fun x c e => L.far hf (hlt b hb) hb hC e⟩
  bs := I.bs
  bsz := Nat.le_trans I.ok.bsz I.sz
  noex := fun b o e hb => by
    rcases (hf b hb).2.2.2.1 with z | z
    · exact I.ok.noex b o e z
    · exact absurd (Nat.lt_of_lt_of_le (Heap.lt_size (I.ok.bs b o e).1) z) (Nat.lt_irrefl _)
  exfs := fun b hb hz => by
    rcases List.mem_cons.mp (I.stkSub b hz) with z | z
    · exact (hf b hb).2.1 z
    · exact (hf b hb).2.2.1 z
  funs := I.stack
  frf := I.stkFree
end
end L2
namespace L2
open PySem PySem.Spec PyProof.Rows
section
variable {κ : Type} [DecidableEq κ]
noncomputable def vq (kvs : List (κ × V)) (k : κ) : Option V := (kvs.find? fun kv => decide (kv.1 = k)).map (·.2)
noncomputable def xU (kvs : List (κ × V)) (k : κ) (v : V) : List (κ × V) :=
  if (kvs.any fun kv => decide (kv.1 = k)) = true then kvs.map (fun kv => if kv.1 = k then (kv.1, v) else kv) else kvs ++ [(k, v)]
noncomputable def zag (kvs : List (κ × V)) (k : κ) : List (κ × V) := kvs.filter fun kv => decide (kv.1 ≠ k)
theorem kD {p : κ × V} {r : List (κ × V)} {k : κ} (e : p.1 = k) : vq (p :: r) k = some p.2 := by simp [vq, List.find?_cons, e]
theorem kE {p : κ × V} {r : List (κ × V)} {k : κ} (e : ¬ p.1 = k) : vq (p :: r) k = vq r k := by simp [vq, List.find?_cons, e]
theorem Xl (k : κ) : ∀ kvs : List (κ × V), (kvs.any fun kv => decide (kv.1 = k)) = (vq kvs k).isSome
  | [] => rfl
  | p :: r => by
    rw [List.any_cons]
    by_cases e : p.1 = k
    · simp only [kD e, decide_eq_true e, Bool.true_or, Option.isSome_some]
    · rw [kE e, decide_eq_false e, Bool.false_or]; exact Xl k r
theorem u8 (kvs : List (κ × V)) (k : κ) (v : V) : (xU kvs k v).length ≤ kvs.length + 1 := by
  unfold xU
  split
  · rw [List.length_map]; omega
  · rw [List.length_append, List.length_cons, List.length_nil]; omega
theorem x4.isSome_eq {o : Option V} {u : Option Value} (r : x4 o u) : o.isSome = u.isSome := by
  cases o with
  | none => cases u with
    | none => rfl
    | some _ => exact (show False from r).elim
  | some _ => cases u with
    | none => exact (show False from r).elim
    | some _ => rfl
theorem x4.getD {o : Option V} {u : Option Value} {d : V} {d' : Value} (r : x4 o u) (rd : RelV d d') : RelV (o.getD d) (u.getD d') := by
  cases o with
  | none => cases u with
    | none => exact rd
    | some _ => exact (show False from r).elim
  | some _ => cases u with
    | none => exact (show False from r).elim
    | some _ => exact r
theorem KV.val {kvs : List (κ × V)} {vs : List (κ × Value)} (r : KV kvs vs) (k : κ) : x4 (vq kvs k) (valueAt vs k) := by
  unfold KV at r
  induction r with
  | nil => exact True.intro
  | @cons p q ps qs h t ih =>
    obtain ⟨h1, h2⟩ := h
    by_cases e : p.1 = k
    · have e' : q.1 = k := h1.symm.trans e
      have b : valueAt (q :: qs) k = some q.2 := by simp [valueAt, List.find?_cons, e']
      rw [kD e, b]; exact h2
    · have e' : ¬ q.1 = k := fun z => e (h1.trans z)
      have b : valueAt (q :: qs) k = valueAt qs k := by simp [valueAt, List.find?_cons, e']
      rw [kE e, b]; exact ih
theorem KV.any {kvs : List (κ × V)} {vs : List (κ × Value)} (r : KV kvs vs) (k : κ) : (kvs.any fun kv => decide (kv.1 = k)) = vs.any fun kv => decide (kv.1 = k) := by
  unfold KV at r
  induction r with
  | nil => rfl
  | cons h t ih => rw [List.any_cons, List.any_cons, ih, h.1]
theorem KV.repl {kvs : List (κ × V)} {vs : List (κ × Value)} (r : KV kvs vs) (k : κ) {y : V} {u : Value} (ry : RelV y u) :
    KV (kvs.map fun kv => if kv.1 = k then (kv.1, y) else kv) (vs.map fun kv => if kv.1 = k then (kv.1, u) else kv) := by
  unfold KV at r ⊢
  induction r with
  | nil => exact .nil
  | @cons p q ps qs h t ih =>
    rw [List.map_cons, List.map_cons]
    refine .cons ?_ ih
    obtain ⟨h1, h2⟩ := h
    by_cases e : p.1 = k
    · rw [if_pos e, if_pos (h1.symm.trans e)]; exact ⟨h1, ry⟩
    · rw [if_neg e, if_neg (fun z => e (h1.trans z))]; exact ⟨h1, h2⟩
theorem KV.put {kvs : List (κ × V)} {vs : List (κ × Value)} (r : KV kvs vs) (k : κ) {y : V} {u : Value} (ry : RelV y u) : KV (xU kvs k y) (stored vs k u) := by
  unfold xU stored
  rw [r.any k]
  by_cases e : (vs.any fun kv => decide (kv.1 = k)) = true
  · rw [if_pos e, if_pos e]; exact r.repl k ry
  · rw [if_neg e, if_neg e]; exact Paired.snoc r ⟨rfl, ry⟩
theorem KV.drop {kvs : List (κ × V)} {vs : List (κ × Value)} (r : KV kvs vs) (k : κ) : KV (zag kvs k) (without vs k) := by
  unfold KV at r ⊢
  unfold zag without
  induction r with
  | nil => exact .nil
  | @cons p q ps qs h t ih =>
    obtain ⟨h1, h2⟩ := h
    rw [List.filter_cons, List.filter_cons]
    by_cases e : p.1 = k
    · have a : ¬ decide (p.1 ≠ k) = true := by simp [e]
      have b : ¬ decide (q.1 ≠ k) = true := by simp [h1.symm.trans e]
      rw [if_neg a, if_neg b]; exact ih
    · have e' : ¬ q.1 = k := fun z => e (h1.trans z)
      have a : decide (p.1 ≠ k) = true := by simp [e]
      have b : decide (q.1 ≠ k) = true := by simp [e']
      rw [if_pos a, if_pos b]; exact .cons ⟨h1, h2⟩ ih
theorem KV.keys {kvs : List (κ × V)} {vs : List (κ × Value)} (r : KV kvs vs) : kvs.map (·.1) = vs.map (·.1) := by
  unfold KV at r
  induction r with
  | nil => rfl
  | cons h t ih => rw [List.map_cons, List.map_cons, ih, h.1]
theorem KV.length {kvs : List (κ × V)} {vs : List (κ × Value)} (r : KV kvs vs) : kvs.length = vs.length := Paired.length r
end
theorem Ze {P : Program} {w : World} {k : Key} {u : Value} (r : RelV (kV k) u) : (yV P w).is k u = true := by
  cases k with
  | inl i => obtain ⟨t, e⟩ := (show ∃ t, u = Value.int i t from r); subst e; exact Vl P w i t
  | inr x => obtain ⟨t, e⟩ := (show ∃ t, u = Value.str x t from r); subst e; exact Vm P w x t
theorem Yp {P : Program} {w : World} : ∀ {ks : List Key} {us : List Value}, Vals (ks.map kV) us → ItemsAre (yV P w) ks us
  | [], _, r => by rw [List.map_nil] at r; cases r; exact .nil
  | k :: ks, _, r => by
    rw [List.map_cons] at r
    cases r with
    | cons h t => exact .cons (Ze h) (Yp t)
noncomputable abbrev KT (H : Hp) : List (List Key × V) → List (List Key × Addr × Value) → Prop := Paired fun p q => p.1 = q.1 ∧ H q.2.1 = some (.tup (p.1.map kV)) ∧ RelV p.2 q.2.2
theorem KT.val {H : Hp} {kvs : List (List Key × V)} {xs : List (List Key × Addr × Value)} (r : KT H kvs xs) (k : List Key) : x4 (vq kvs k) ((atKey xs k).map (·.2)) := by
  induction r with
  | nil => exact True.intro
  | @cons p q ps qs h t ih =>
    obtain ⟨h1, _, h2⟩ := h
    by_cases e : p.1 = k
    · have e' : q.1 = k := h1.symm.trans e
      have b : atKey (q :: qs) k = some q.2 := by simp [atKey, List.find?_cons, e']
      rw [kD e, b]; exact h2
    · have e' : ¬ q.1 = k := fun z => e (h1.trans z)
      have b : atKey (q :: qs) k = atKey qs k := by simp [atKey, List.find?_cons, e']
      rw [kE e, b]; exact ih
theorem KT.repl {H : Hp} {kvs : List (List Key × V)} {xs : List (List Key × Addr × Value)} (r : KT H kvs xs) (k : List Key) {y : V} {u : Value} (ry : RelV y u) :
    KT H (kvs.map fun kv => if kv.1 = k then (kv.1, y) else kv) (xs.map (putAt k u)) := by
  induction r with
  | nil => exact .nil
  | @cons p q ps qs h t ih =>
    rw [List.map_cons, List.map_cons]
    refine .cons ?_ ih
    obtain ⟨h1, h2, h3⟩ := h
    unfold putAt
    by_cases e : p.1 = k
    · rw [if_pos e, if_pos (h1.symm.trans e)]; exact ⟨h1, h2, ry⟩
    · rw [if_neg e, if_neg (fun z => e (h1.trans z))]; exact ⟨h1, h2, h3⟩
theorem KT.put {H : Hp} {kvs : List (List Key × V)} {xs : List (List Key × Addr × Value)} (r : KT H kvs xs) (k : List Key) {b : Addr} {y : V} {u : Value} (hb : H b = some (.tup (k.map kV))) (ry : RelV y u) :
    KT H (xU kvs k y) (storedH xs k b u) := by
  have e : (kvs.any fun kv => decide (kv.1 = k)) = (atKey xs k).isSome := by
    rw [Xl, (r.val k).isSome_eq, Option.isSome_map]
  unfold xU storedH
  rw [e]
  by_cases q : (atKey xs k).isSome = true
  · rw [if_pos q, if_pos q]; exact r.repl k ry
  · rw [if_neg q, if_neg q]; exact Paired.snoc r ⟨rfl, hb, ry⟩
theorem KT.keeps {H H' : Hp} {kvs : List (List Key × V)} {xs : List (List Key × Addr × Value)} (r : KT H kvs xs) (ht : ∀ b ys, H b = some (.tup ys) → H' b = some (.tup ys)) : KT H' kvs xs :=
  Paired.mapP r fun _ _ z => ⟨z.1, ht _ _ z.2.1, z.2.2⟩
section
variable {P : Program} {w : World} {H : Hp} {h : Heap} {a : Addr}
theorem zah {u : HO} (ok : HOk P w H h) (e : Rd H a u) : yW P w H h a u := e.ok ok
theorem UG {kvs : List (Key × V)} (ok : HOk P w H h) (e : Rd H a (.dK kvs)) : kvs.length ≤ sizeLine ∧ (a == sysModules) = false ∧ ∃ vs, KV kvs vs ∧ h.DictOf (yV P w) a vs :=
  show yW P w H h a (.dK kvs) from zah ok e
theorem Zf {kvs : List (Key × V)} (ok : HOk P w H h) (e : H a = some (.dK kvs)) : kvs.length ≤ sizeLine ∧ (a == sysModules) = false ∧ ∃ vs, KV kvs vs ∧ h.DictOf (yV P w) a vs := UG ok (.inl e)
theorem Xm {ks : List Key} (ok : HOk P w H h) (e : H a = some (.tup (ks.map kV))) : (tupleKind (yV P w)).is h ks a := by
  obtain ⟨_, its, r, o, h1, h2, n, h3⟩ := (show yW P w H h a (.tup (ks.map kV)) from ok a _ e)
  exact ⟨o, its.toArray, n, h1, h2, h3, by simpa using Yp r⟩
theorem UH {kvs : List (List Key × V)} (ok : HOk P w H h) (e : Rd H a (.dT kvs)) : kvs.length ≤ sizeLine ∧ (a == sysModules) = false ∧
    ∃ xs, KT H kvs xs ∧ h.DictOfH (tupleKind (yV P w)) a xs := by
  obtain ⟨z, y, xs, r, o, es, ep, h1, h2, h3, h4, h5⟩ := (show yW P w H h a (.dT kvs) from zah ok e)
  refine ⟨z, y, xs, r, o, es, ep, h1, h2, h3, h4, fun x hx => ?_, h5⟩
  have all : ∀ {l : List (List Key × V)} {m : List (List Key × Addr × Value)}, KT H l m → ∀ x ∈ m, (tupleKind (yV P w)).is h x.1 x.2.1 := by
    intro l m q
    induction q with
    | nil => intro x hx; exact nomatch hx
    | @cons p q ps qs hq t ih =>
      intro x hx
      rcases List.mem_cons.mp hx with e | hx
      · subst e
        exact Xm ok (by rw [← hq.1]; exact hq.2.1)
      · exact ih x hx
  exact all r x hx
theorem zdC {kvs : List (List Key × V)} (ok : HOk P w H h) (e : H a = some (.dT kvs)) : kvs.length ≤ sizeLine ∧ (a == sysModules) = false ∧
    ∃ xs, KT H kvs xs ∧ h.DictOfH (tupleKind (yV P w)) a xs := UH ok (.inl e)
end
noncomputable def jw (H : Hp) (a : Addr) (y : V) (r : Option V) : Prop :=
  (∃ kvs k, Rd H a (.dK kvs) ∧ y = kV k ∧ r = vq kvs k) ∨ ∃ kvs k b, Rd H a (.dT kvs) ∧ y = .ref b ∧ H b = some (.tup (k.map kV)) ∧ r = vq kvs k
noncomputable def kG (H : Hp) (a : Addr) (y v : V) (H' : Hp) : Prop :=
  (∃ kvs k, H a = some (.dK kvs) ∧ y = kV k ∧ kvs.length < sizeLine ∧ H' = upd H a (.dK (xU kvs k v))) ∨
  ∃ kvs k b, H a = some (.dT kvs) ∧ y = .ref b ∧ H b = some (.tup (k.map kV)) ∧ kvs.length < sizeLine ∧ H' = upd H a (.dT (xU kvs k v))
theorem jw.k {H : Hp} {a : Addr} {kvs : List (Key × V)} {k : Key} (e : H a = some (.dK kvs)) : jw H a (kV k) (vq kvs k) := .inl ⟨kvs, k, .inl e, rfl, rfl⟩
theorem jw.t {H : Hp} {a b : Addr} {kvs : List (List Key × V)} {k : List Key} (e : H a = some (.dT kvs)) (eb : H b = some (.tup (k.map kV))) : jw H a (.ref b) (vq kvs k) := .inr ⟨kvs, k, b, .inl e, rfl, eb, rfl⟩
theorem kG.k {H : Hp} {a : Addr} {kvs : List (Key × V)} {k : Key} {v : V} (e : H a = some (.dK kvs)) (hl : kvs.length < sizeLine) : kG H a (kV k) v (upd H a (.dK (xU kvs k v))) := .inl ⟨kvs, k, e, rfl, hl, rfl⟩
theorem kG.t {H : Hp} {a b : Addr} {kvs : List (List Key × V)} {k : List Key} {v : V} (e : H a = some (.dT kvs)) (eb : H b = some (.tup (k.map kV))) (hl : kvs.length < sizeLine) :
    kG H a (.ref b) v (upd H a (.dT (xU kvs k v))) := .inr ⟨kvs, k, b, e, rfl, eb, hl, rfl⟩
section
variable {X : Cx} {pins : List (Addr × Obj)} {σ : St} {H : Hp} {s : Shared} {a : Addr} {y v : V} {u r : Value} {o : Option V} {A : Around} {E : Value → Shared → Prop}
theorem Inv.big (I : Inv X pins σ H s) : sysModules < s.heap.objs.size := by
  have h : mainGlobals < s.heap.objs.size := (I.mod.glob.keeps I.bk).lt
  exact Nat.lt_trans (by decide) h
theorem QW {Q : Value → Shared → Prop} (hu : A.units + 1 < cLine) (I : Inv X pins σ H s) (g : jw H a y (some v)) (ry : RelV y u) (h : ∀ w' s', Inv X pins σ H s' → RelV v w' → Q w' s') :
    wpAny (model X.prog X.w) A (getItem (.ref a) u) Q E s := by
  rcases g with ⟨kvs, k, e, ey, l⟩ | ⟨kvs, k, b, e, ey, eb, l⟩
  · subst ey
    obtain ⟨z, hd, vs, rel, dd⟩ := UG I.hok e
    obtain ⟨w', hw, rw'⟩ := x4.some_of (v := v) (o := valueAt vs k) (by rw [l]; exact rel.val k)
    exact wpAny_getItem_of (Ze ry) dd.mapOf hw (h w' _ (I.tok _) rw')
  · subst ey
    cases (show u = Value.ref b from ry)
    obtain ⟨z, hd, xs, rel, dd⟩ := UH I.hok e
    obtain ⟨w', hw, rw'⟩ := x4.some_of (v := v) (o := (atKey xs k).map (·.2)) (by rw [l]; exact rel.val k)
    obtain ⟨p, hp, hp2⟩ := Option.map_eq_some_iff.mp hw
    refine wpAny_getItem_heap (tupleKind_room_in1 hu) (Xm I.hok eb) dd hp ?_
    rw [hp2]
    exact h w' _ (I.tok _) rw'
theorem j7 {h' : Heap} {t' : Nat} {ob : HO} (I : Inv X pins σ H s) (mu : Mut (H a)) (hs : Heap.SameBut a s.heap h') (he : ∃ q, h'.get? a = some q) (new : yW X.prog X.w (upd H a ob) h' a ob) :
    Inv X pins σ (upd H a ob) { s with heap := h', toks := t' } :=
  I.write (x := a) (e := a) mu (.inl rfl) (fun b q hb z => (hs.2 b hb).trans z) he new
theorem Zg {P : Program} {w : World} {H' : Hp} {h' : Heap} {kvs : List (Key × V)} {vs : List (Key × Value)} (z : kvs.length ≤ sizeLine) (hd : (a == sysModules) = false) (rel : KV kvs vs) (dd : h'.DictOf (yV P w) a vs) :
    yW P w H' h' a (.dK kvs) := ⟨z, hd, vs, rel, dd⟩
theorem QX {H' : Hp} {Q : Unit → Shared → Prop} (hu : A.units + 1 < cLine) (I : Inv X pins σ H s) (g : kG H a y v H') (ry : RelV y u) (rv : RelV v r) (h : ∀ s', Inv X pins σ H' s' → Q () s') :
    wpAny (model X.prog X.w) A (setItem (.ref a) u r) Q E s := by
  rcases g with ⟨kvs, k, e, ey, l, eH⟩ | ⟨kvs, k, b, e, ey, eb, l, eH⟩
  · subst ey eH
    obtain ⟨z, hd, vs, rel, dd⟩ := Zf I.hok e
    have hz : vs.length ≤ sizeLine := by rw [← rel.length]; exact z
    have hl : (xU kvs k v).length ≤ sizeLine := by have := u8 kvs k v; omega
    refine wpAny_setItem_pairs (hsz := hz) (Ze ry) dd fun h' dd' hs => h _ ?_
    have he : ∃ q, h'.get? a = some q := let ⟨q, _, _, hq, _⟩ := dd'; ⟨q, hq⟩
    exact j7 I (by rw [e]; exact True.intro) hs he (Zg hl hd (rel.put k rv) dd')
  · subst ey eH
    cases (show u = Value.ref b from ry)
    obtain ⟨z, hd, xs, rel, dd⟩ := zdC I.hok e
    have hz : xs.length ≤ sizeLine := by rw [← Paired.length rel]; exact z
    have hl : (xU kvs k v).length ≤ sizeLine := by have := u8 kvs k v; omega
    refine wpAny_setItem_heap (hsz := hz) (tupleKind_room_in1 hu) (Xm I.hok eb) dd fun h' dd' hs => h _ ?_
    obtain ⟨q, es, ep, hq, h2, h3, h4, _, h5⟩ := dd'
    refine j7 I (by rw [e]; exact True.intro) hs ⟨q, hq⟩ ⟨hl, hd, _, (rel.put k eb rv).keeps fun c ys ec => ?_, q, es, ep, hq, h2, h3, h4, h5⟩
    rw [zj (zdx ec e (fun z => nomatch z))]
    exact ec
end
section
variable {X : Cx} {pins : List (Addr × Obj)} {σ : St} {H : Hp} {s : Shared} {a : Addr} {kvs : List (Key × V)} {k : Key} {u : Value} {A : Around} {E : Value → Shared → Prop}
end
noncomputable def J5 (i : Expr) : Prop := ∀ ov iv, subscripted i false ov iv = operate [ov, iv] (getItem ov iv)
theorem zbc {prog : Program} {w : World} {A : Around} {E : Value → Shared → Prop} {s : Shared} {env : Env} {value slice : Expr} {pos : Pos} {T id : String} {Q : Value → Shared → Prop}
    (hl : typeLookup (.type T) "__getitem__" = pure (some (.builtin id))) (hs : J5 slice)
    (h : wpAny (model prog w) A (eval value env) (fun o s₁ => wpAny (model prog w) A (eval slice env) (fun i s₂ => s₂.TypeIs o T ∧ wpAny (model prog w) A (getItem o i) Q E s₂) E s₁) E s) :
    wpAny (model prog w) A (eval (.Subscript value slice pos) env) Q E s := by
  refine Subscript_ (wpAny_mono h (fun o s₁ h₁ => wpAny_mono h₁ (fun i s₂ h₂ => ?_) fun _ _ x => x) fun _ _ x => x)
  obtain ⟨hT, h₂⟩ := h₂
  unfold subscriptTail
  refine wpAny_bind ?_
  rw [getitemInPython_of_ne hT.not_modules]
  refine wpAny_bind (wpAny_specialOf hT hl ?_)
  have fin : wpAny (model prog w) A (subscripted slice false o i) (fun r s₃ => wpAny (model prog w) A (letTemporaryGo value o r >>= fun _ => pure r) Q E s₃) E s₂ := by
    rw [hs o i]
    exact wpAny_operating (wpAny_mono h₂ (fun r s₃ h₃ => wpAny_bind (wpAny_letTemporaryGo (wpAny_pure h₃))) fun _ _ x => x)
  first
    | exact wpAny_pure (wpAny_bind fin)
    | exact wpAny_bind (wpAny_pure (wpAny_bind fin))
    | exact wpAny_bind fin
theorem Vq {X : Cx} {pins : List (Addr × Obj)} {σ : St} {H : Hp} {s : Shared} {a : Addr} {y : V} {o : Option V} (I : Inv X pins σ H s) (g : jw H a y o) : s.TypeIs (.ref a) "dict" := by
  rcases g with ⟨kvs, k, e, _, _⟩ | ⟨kvs, k, b, e, _, _, _⟩
  · obtain ⟨_, _, vs, _, dd⟩ := UG I.hok e
    exact dd.typeIs
  · obtain ⟨_, _, xs, _, dd⟩ := UH I.hok e
    exact dd.typeIs
noncomputable def zdD (td ty : TE) : TE := fun σ H Q => td σ H fun x H1 => ty σ H1 fun y H2 => ∃ a v, x = .ref a ∧ jw H2 a y (some v) ∧ Q v H2
noncomputable def zdE (td ty tv : TE) : TS := fun D σ H => tv σ H fun v H1 => td σ H1 fun x H2 => ty σ H2 fun y H3 => ∃ a H4, x = .ref a ∧ kG H3 a y v H4 ∧ D.nx σ H4
section
variable {X : Cx} {o i e value : Expr} {pos pos' tpos : Pos} {td ty tv : TE}
theorem zbd (hu : X.A.units + 1 < cLine) (ho : PE X o td) (hi : PE X i ty) (hs : J5 i) : PE X (.Subscript o i pos) (zdD td ty) := by
  intro pins s σ H Q I h
  refine zbc PySem.F.slot_dict_getitem.lookup hs (thn (ho pins s σ H _ I h) fun u s1 ⟨x, H1, I1, rx, q1⟩ => thn (hi pins s1 σ H1 _ I1 q1) fun iv s2 ⟨y, H2, I2, ry, a, v, ex, g, q2⟩ => ?_)
  subst ex
  obtain rfl : u = Value.ref a := rx
  exact ⟨Vq I2 g, QW hu I2 g ry fun w' s3 I3 rw' => ⟨v, H2, I3, rw', q2⟩⟩
theorem zbe (hu : X.A.units + 1 < cLine) (ho : PE X o td) (hi : PE X i ty) (hv : PE X value tv) (hs : swapsWith value (some (.Subscript o i pos')) pos.line X.env = pure false) :
    PS X (.Assign [.Subscript o i pos'] value pos) (zdE td ty tv) := by
  intro pins s σ H D I h
  refine wpAny_Assign_Subscript (thn (hv pins s σ H _ I h) fun r s1 ⟨v, H1, I1, rv, q1⟩ => thn (ho pins s1 σ H1 _ I1 q1) fun u s2 ⟨x, H2, I2, rx, q2⟩ => thn (hi pins s2 σ H2 _ I2 q2) fun iv s3 ⟨y, H3, I3, ry, a, H4, ex, g, q3⟩ => ?_) hs
  subst ex
  obtain rfl : u = Value.ref a := rx
  exact QX hu I3 g ry rv fun s4 I4 => ⟨σ, H4, I4, q3⟩
end
theorem J6 {P : Program} {w : World} {H : Hp} (h : Heap) (hb : sysModules < h.objs.size) : yW P w H (h.push { cls := .type "dict", data := .dict #[] }) h.objs.size (.dK []) :=
  ⟨Nat.zero_le _, beq_eq_false_iff_ne.mpr (Ne.symm (Nat.ne_of_lt hb)), [], .nil, Heap.DictOf.new h⟩
section
variable {X : Cx} {pos : Pos}
end
noncomputable def Zh : List (TE × TE) → St → Hp → (List (V × V) → Hp → Prop) → Prop
  | [], _, H, Q => Q [] H
  | (tk, tv) :: r, σ, H, Q => tk σ H fun x H1 => tv σ H1 fun y H2 => Zh r σ H2 fun ps H3 => Q ((x, y) :: ps) H3
noncomputable abbrev VV : List (V × V) → List (Value × Value) → Prop := Paired fun p q => RelV p.1 q.1 ∧ RelV p.2 q.2
noncomputable def PPs (X : Cx) (pos : Pos) (keys : List (Option Expr)) (values : List Expr) (trs : List (TE × TE)) : Prop :=
  ∀ (pins : List (Addr × Obj)) (s : Shared) (σ : St) (H : Hp) (Q : List (V × V) → Hp → Prop), Inv X pins σ H s → Zh trs σ H Q →
    wpAny (model X.prog X.w) X.A (evalPairs (pairTrees keys values X.env pos)) (fun vs s' => ∃ ps H', Inv X pins σ H' s' ∧ VV ps vs ∧ Q ps H') X.xe s
theorem ZZ {X : Cx} {pos : Pos} : PPs X pos [] [] [] := fun pins s σ H Q I h => pairTrees_nil_walk ⟨[], H, I, .nil, h⟩
theorem vf {X : Cx} {pos : Pos} {k v : Expr} {ks : List (Option Expr)} {vs : List Expr} {tk tv : TE} {trs : List (TE × TE)} (hk : PE X k tk) (hv : PE X v tv) (hr : PPs X pos ks vs trs) :
    PPs X pos (some k :: ks) (v :: vs) ((tk, tv) :: trs) := fun pins s σ H Q I h =>
  pairTrees_cons_walk (thn (hk pins s σ H _ I h) fun u s1 ⟨x, H1, I1, rx, q1⟩ => thn (hv pins s1 σ H1 _ I1 q1) fun w2 s2 ⟨y, H2, I2, ry, q2⟩ =>
    thn (hr pins s2 σ H2 _ I2 q2) fun ws s3 ⟨ps, H3, I3, rel, q3⟩ => ⟨(x, y) :: ps, H3, I3, .cons ⟨rx, ry⟩ rel, q3⟩)
noncomputable def xY (kvs more : List (Key × V)) : List (Key × V) := more.foldl (fun acc kv => xU acc kv.1 kv.2) kvs
theorem KV.merge : ∀ {more : List (Key × V)} {rs : List (Key × Value)} {kvs : List (Key × V)} {vs : List (Key × Value)}, KV more rs → KV kvs vs → KV (xY kvs more) (merged vs rs) := by
  intro more rs kvs vs r
  unfold KV at r
  induction r generalizing kvs vs with
  | nil => intro q; exact q
  | @cons p q ps qs h t ih =>
    intro r0
    have e : KV (xU kvs p.1 p.2) (stored vs q.1 q.2) := by
      have := r0.put p.1 h.2
      rw [← h.1]; exact this
    exact ih e
theorem vw : ∀ (more kvs : List (Key × V)), (xY kvs more).length ≤ kvs.length + more.length
  | [], kvs => by show kvs.length ≤ kvs.length + 0; omega
  | p :: r, kvs => by
    have h1 := vw r (xU kvs p.1 p.2)
    have h2 := u8 kvs p.1 p.2
    show (xY (xU kvs p.1 p.2) r).length ≤ _
    rw [List.length_cons]; omega
theorem Zi {P : Program} {w : World} : ∀ {kvs : List (Key × V)} {ws : List (Value × Value)}, VV (kvs.map fun kv => (kV kv.1, kv.2)) ws → ∃ rs, Carries (yV P w) ws rs ∧ KV kvs rs
  | [], _, r => by rw [List.map_nil] at r; cases r; exact ⟨[], True.intro, .nil⟩
  | p :: kvs, _, r => by
    rw [List.map_cons] at r
    cases r with
    | @cons a b as bs h t =>
      obtain ⟨rs, c, q⟩ := Zi (P := P) (w := w) t
      obtain ⟨b1, b2⟩ := b
      exact ⟨(p.1, b2) :: rs, ⟨Ze h.1, rfl, c⟩, .cons ⟨rfl, h.2⟩ q⟩
noncomputable def zai (trs : List (TE × TE)) : TE := fun σ H Q => ∀ p, H p = none → Zh trs σ (upd H p (.dK [])) fun ps H2 => H2 p = some (.dK []) ∧ ∃ kvs : List (Key × V), ps = kvs.map (fun kv => (kV kv.1, kv.2)) ∧ kvs.length ≤ 15 ∧ Q (.ref p) (upd H2 p (.dK (xY [] kvs)))
theorem Z0 {X : Cx} {pos : Pos} {keys : List (Option Expr)} {values : List Expr} {trs : List (TE × TE)} (h : PPs X pos keys values trs) (hall : keys.all (·.isSome) = true) (hl : keys.length = values.length) (h0 : keys ≠ [])
    (h15 : keys.length ≤ 15) : PE X (.Dict keys values pos) (zai trs) := by
  intro pins s σ H Q I q
  have hn := I.hok.fresh (Nat.le_refl s.heap.objs.size)
  have I1 := I.laid (a := s.heap.objs.size) (o := .dK []) (h' := s.heap.push { cls := .type "dict", data := .dict #[] }) (t' := s.toks) (fun _ _ q => Heap.get?_push_of_some _ q) (Nat.le_refl _) (J6 s.heap I.big)
  refine wpAny_Dict_walk (knd := yV X.prog X.w) hall hl h0 h15 (thn (h pins _ σ _ _ I1 (q _ hn)) fun ws s2 ⟨ps, H2, I2, rel, e, kvs, ep, lk, q2⟩ => ?_)
  subst ep
  obtain ⟨rs, c, rk⟩ := Zi (P := X.prog) (w := X.w) rel
  obtain ⟨z, hd, vs0, r0, dd⟩ := Zf I2.hok e
  cases r0
  refine ⟨rs, c, dd, fun h' dd' hs => ⟨.ref s.heap.objs.size, _, ?_, rfl, q2⟩⟩
  have hz : (xY [] kvs).length ≤ sizeLine := by
    have h1 := vw kvs []
    rw [List.length_nil] at h1
    rw [sizeLine_eq]; omega
  have he : ∃ q, h'.get? s.heap.objs.size = some q := let ⟨q, _, _, hq, _⟩ := dd'; ⟨q, hq⟩
  exact j7 I2 (by rw [e]; exact True.intro) hs he (Zg hz hd (rk.merge .nil) dd')
section
variable {X : Cx} {pins : List (Addr × Obj)} {σ : St} {H : Hp} {s : Shared} {a : Addr} {y d : V} {u r : Value} {o : Option V} {A : Around} {E : Value → Shared → Prop}
end
section
variable {X : Cx} {o e f : Expr} {apos cpos : Pos} {td ty tx : TE}
end
section
variable {X : Cx} {pins : List (Addr × Obj)} {σ : St} {H : Hp} {s : Shared} {a : Addr} {kvs : List (Key × V)} {A : Around} {E : Value → Shared → Prop}
end
section
variable {X : Cx} {pins : List (Addr × Obj)} {σ : St} {H : Hp} {s : Shared} {a : Addr} {y : V} {u : Value} {A : Around} {E : Value → Shared → Prop}
end
end L2
namespace PySem
theorem YE : typeLookup (.type "list") "keys" = pure none := by rw [typeLookup_type, builtinLookup_eq_fast]; kernel_rfl
theorem qq : entryFor table "dict.update.loop" = some Builtin.«dict.update.loop» := entryFor_of_tree (by kernel_rfl)
theorem vk : plainId "dict.update.loop" = true := by decide +kernel
section
variable {prog : Program} {w : World} {A : Around} {E : Value → Shared → Prop} {s : Shared}
theorem Vr {a : Addr} {o : Obj} {xs : Array Value} {k : Nat} {Q : Option Value → Shared → Prop}
    (hx : s.heap.get? a = some o) (hc : o.cls = .type "list") (hdat : o.data = .seq xs k) (hd : o.dict = none) (hA : A.handled = none)
    (h : ∀ h' tk, (∀ b u, s.heap.get? b = some u → h'.get? b = some u) → Q none { s with heap := h', toks := tk }) :
    wpAny (model prog w) A (getAttr? (.ref a) "keys") Q E s := by
  obtain ⟨c, dct, dat, sl⟩ := o
  simp only at hc hdat hd
  subst hc hdat hd
  obtain ⟨hp, g, d, tk, os⟩ := s
  have hT : ∀ tk', (⟨hp, g, d, tk', os⟩ : Shared).TypeIs (.ref a) "list" := fun _ => ⟨_, hx, rfl⟩
  have f1 := sub_AttributeError
  have f3 := F.slot_list_getattribute.lookup
  have f4 := F.slot_list_getattribute.bind (.ref a)
  have f5 := am_list_getattr_none
  have hname : (["__module__", "__name__", "__qualname__", "__doc__", "__annotations__"] : List Str).contains "keys" = false := by decide
  unfold getAttr? getAttrBy? getAttrBy
  repeat (any_goals (first | assumption | exact hT _ | ((with_reducible show wpAny _ _ (call (Value.builtin "list.__getattribute__") _ _) _ _ _); refine call_meets F.slot_list_getattribute (hT _) am_entry_list_getattribute (F.args_list_getattribute_2 _ _) (meets_getattribute_miss_list a xs k sl "keys" _ YE hname (by decide)) ⟨hx, hA, fun h' tk' e hx' => ?_⟩) | wp_step))
  obtain ⟨t', u', he⟩ := hx'.there
  show wpAny _ _ (getattributeRaised _ _ _ _ _ _ _) _ _ _
  unfold getattributeRaised
  repeat (any_goals (first | assumption | wp_step))
  exact h _ _ hx'.keeps
end
section
variable {prog : Program} {w : World} {A : Around} {K : Type} [DecidableEq K] {knd : KeyKind prog w K}
theorem J7 (hh : A.handled = none) {d it l : Addr} {items : Array Value} {r : Value} {R : Result → Shared → Prop} (hdi : d ≠ it) (hdl : d ≠ l) (hil : it ≠ l) :
    ∀ (more : List (K × Value)) (i : Nat) (s : Shared) (kvs : List (K × Value)), i + more.length = items.size → s.heap.DictOf knd d kvs → s.heap.IsListIter it l i → s.heap.IsList l items →
      (∀ (j : Nat) kv, more[j]? = some kv → ∃ t key, items[i + j]? = some (.ref t) ∧ t ≠ d ∧ t ≠ it ∧ PyProof.Rows.IsTup s.heap t #[key, kv.2] ∧ knd.is kv.1 key = true) → kvs.length + more.length ≤ sizeLine →
      (∀ h' tk, h'.DictOf knd d (merged kvs more) → (∀ c o, c ≠ d → c ≠ it → s.heap.get? c = some o → h'.get? c = some o) → R (.ok (.ret r)) { s with heap := h', toks := tk }) →
      codeAny (model prog w) A (.builtin "dict.update.loop" ⟨[.ref d, .ref it, rawInt i, r], []⟩) R s := by
  intro more
  induction more with
  | nil =>
    intro i s kvs hi hd hit hl hp hz hR
    refine codeAny_builtin qq ?_
    rw [Around.under_plainId vk _]
    show wpAny _ A.in1 (pyNext (.ref it) >>= _) _ _ _
    refine wpAny_bind (wpAny_pyNext_list_end (A := A.in1) hh hit hl (by simp at hi; simp; omega) fun h' eb => ?_)
    show wpAny _ _ (Builtin.Dict.addKeywords d [] >>= _) _ _ _
    exact wpAny_bind (wpAny_pure (wpAny_pure (hR h' s.toks (hd.extBut eb hdi) fun c o _ hc q => eb c o hc q)))
  | cons kv more ih =>
    intro i s kvs hi hd hit hl hp hz hR
    obtain ⟨t, key, hx, htd, hti, ⟨o, ho, hc, n, hdat⟩, hk⟩ := hp 0 kv rfl
    refine codeAny_builtin qq ?_
    rw [Around.under_plainId vk _]
    show wpAny _ A.in1 (pyNext (.ref it) >>= _) _ _ _
    refine wpAny_bind (wpAny_pyNext_list_item hit hl (x := .ref t) (by simpa using hx) fun h1 hit1 sb1 => ?_)
    have ho1 : h1.get? t = some o := (sb1.2 t hti).trans ho
    show wpAny _ _ (holding [.ref t] _ >>= _) _ _ _
    refine wpAny_bind (wpAny_holding ?_)
    refine wpAny_bind (wpAny_tryCatch ?_)
    unfold Builtin.Dict.pairItems
    refine wpAny_bind (wpAny_typeOf (T := "tuple") ⟨o, ho1, hc⟩ ?_)
    rw [if_pos (by decide)]
    refine wpAny_bind (wpAny_seqItems ho1 hdat ?_)
    refine wpAny_pure ?_
    show wpAny _ _ (holding [key, kv.2] (dictSet d key kv.2)) _ _ _
    refine wpAny_holding (wpAny_dictSet_pairs hk (hd.sameBut sb1 hdi) (fun h2 hd2 sb2 => ?_) (by simp at hz; omega))
    show wpAny _ _ (again (.builtin "dict.update.loop" ⟨[.ref d, .ref it, rawInt ((i : Int) + 1), r], []⟩)) _ _ _
    have ei : ((i : Int) + 1) = (((i + 1 : Nat)) : Int) := by omega
    rw [ei]
    have keep : ∀ c o, c ≠ d → c ≠ it → s.heap.get? c = some o → h2.get? c = some o := fun c o h3 h4 q => (sb2.2 c h3).trans ((sb1.2 c h4).trans q)
    refine wpAny_pure ⟨plainId_quiet vk _, ih (i + 1) _ (stored kvs kv.1 kv.2) (by simp at hi; omega) hd2 ?_ ?_ (fun j kv' hj => ?_) ?_ fun h3 tk hd3 k3 => ?_⟩
    · obtain ⟨oi, hoi, r1⟩ := hit1
      exact ⟨oi, (sb2.2 it (Ne.symm hdi)).trans hoi, r1⟩
    · obtain ⟨ol, hol, r1⟩ := hl
      exact ⟨ol, keep l ol (Ne.symm hdl) (Ne.symm hil) hol, r1⟩
    · obtain ⟨t', key', h1', h2', h3', ⟨o', ho', r'⟩, h5'⟩ := hp (j + 1) kv' (by simpa using hj)
      refine ⟨t', key', ?_, h2', h3', ⟨o', keep t' o' h2' h3' ho', r'⟩, h5'⟩
      rw [← h1']
      congr 1
      omega
    · have := stored_length_le kvs kv.1 kv.2
      simp at hz
      omega
    · exact hR h3 tk hd3 fun c o h4 h5 q => k3 c o h4 h5 (keep c o h4 h5 q)
theorem J8 {E : Value → Shared → Prop} {s : Shared} (hh : A.handled = none) {l : Addr} {o : Obj} {items : Array Value} {n : Nat} {Q : Value → Shared → Prop} (ho : s.heap.get? l = some o) (hc : o.cls = .type "list") (hdat : o.data = .seq items n) (hnd : o.dict = none) {more : List (K × Value)} (hlen : more.length = items.size)
    (hp : ∀ (j : Nat) kv, more[j]? = some kv → ∃ t key, items[j]? = some (.ref t) ∧ PyProof.Rows.IsTup s.heap t #[key, kv.2] ∧ knd.is kv.1 key = true) (hz : more.length ≤ sizeLine)
    (h : ∀ h' tk, h'.DictOf knd s.heap.objs.size (merged [] more) → (∀ c o, s.heap.get? c = some o → h'.get? c = some o) → Q (.ref s.heap.objs.size) { s with heap := h', toks := tk }) :
    wpAny (model prog w) A (call (.type "dict") [.ref l]) Q E s := by
  refine callType_codes (Q₁ := fun obj s₁ => obj = .ref s.heap.objs.size ∧ s₁ = { s with heap := s.heap.push { cls := .type "dict", data := .dict #[] } }) F.kt_called_dict (F.kt_typeCall_dict_1 _) F.entry_dict_init (kt_code_dict_new _ ⟨rfl, rfl⟩) ?_
  rintro obj s₁ ⟨rfl, rfl⟩
  have hnew : (s.heap.push { cls := .type "dict", data := .dict #[] }).DictOf knd s.heap.objs.size [] := Heap.DictOf.new s.heap
  refine ⟨hnew.typeIs, F.args_dict_init_2 _ _, ?_⟩
  have ho1 : (s.heap.push { cls := .type "dict", data := .dict #[] }).get? l = some o := Heap.get?_push_of_some _ ho
  refine wpAny_bind ?_
  unfold Builtin.Dict.selfAndRest
  refine wpAny_bind (wpAny_notOrdered_dict hnew.typeIs ?_)
  refine wpAny_pure ?_
  show wpAny _ _ (Builtin.Dict.updateFrom "dict.__init__" s.heap.objs.size (.ref l) [] .none) _ _ _
  unfold Builtin.Dict.updateFrom
  refine wpAny_bind (wpAny_typeOf (T := "list") ⟨o, ho1, hc⟩ ?_)
  rw [if_pos (by decide)]
  refine wpAny_bind (Vr (A := A.in1.in1) ho1 hc hdat hnd hh fun h1 tk k1 => ?_)
  rw [if_pos (by rfl)]
  refine wpAny_bind (wpAny_rule ?_)
  have ho2 : h1.get? l = some o := k1 _ _ ho1
  refine wpAny_bind (wpAny_pyIter_list (items := items) ⟨o, ho2, hc, n, hdat⟩ ?_)
  have hlt : s.heap.objs.size < h1.objs.size := Heap.lt_size (k1 _ _ (Heap.get?_push_size s.heap (o := { cls := .type "dict", data := .dict #[] }) rfl))
  have hl0 : l < s.heap.objs.size := Heap.lt_size ho
  obtain ⟨od, es, ep, hod, rd⟩ := hnew
  have kk : ∀ c u, s.heap.get? c = some u → (h1.push { cls := .type "list_iterator", data := .fields #[.ref l, .int 0 0] }).get? c = some u := fun c u q => Heap.get?_push_of_some _ (k1 _ _ (Heap.get?_push_of_some _ q))
  refine wpAny_pure ⟨plainId_quiet vk _, J7 (knd := knd) (A := A.in1) (d := s.heap.objs.size) (it := h1.objs.size) (l := l) (items := items) hh (Nat.ne_of_lt hlt) (Nat.ne_of_gt hl0) (Nat.ne_of_gt (Nat.lt_trans hl0 hlt)) more 0 _ [] (by rw [hlen]; omega) ?_ ?_ ?_ (fun j kv hj => ?_) (by simpa using hz) fun h' tk' hd' k' => ⟨rfl, ?_⟩⟩
  · exact ⟨od, es, ep, Heap.get?_push_of_some _ (k1 _ _ hod), rd⟩
  · exact ⟨_, Heap.get?_push_size _ rfl, rfl, rfl⟩
  · exact ⟨o, Heap.get?_push_of_some _ ho2, hc, n, hdat⟩
  · obtain ⟨t, key, e1, ⟨ot, e2, r2⟩, e3⟩ := hp j kv hj
    have ht : t < s.heap.objs.size := Heap.lt_size e2
    exact ⟨t, key, by simpa using e1, Nat.ne_of_lt ht, Nat.ne_of_lt (Nat.lt_trans ht hlt), ⟨ot, kk _ _ e2, r2⟩, e3⟩
  · exact h h' tk' hd' fun c u q => k' c u (Nat.ne_of_lt (Heap.lt_size q)) (Nat.ne_of_lt (Nat.lt_trans (Heap.lt_size q) hlt)) (kk c u q)
end
end PySem
namespace PySem
open PySem PySem.W PySem.Calls PyProof.Rows
section
variable {prog : Program} {w : World} {A : Around} {E : Value → Shared → Prop} {s : Shared} {T : String} {r d : Addr} {n : Nat} {P : Nat → Value → Prop} {OK : Heap → Prop}
end
end PySem
namespace L2
open PySem PySem.Spec PyProof.Rows
noncomputable def Ite (K : PySem.W.Frag) (a : Addr) : It :=
  ⟨fun i H => ∃ xs x, SqL K H a xs ∧ xs[i]? = some x, fun i H x H' => ∃ t y, x = .ref t ∧ H t = none ∧ H' = upd H t (.tup [.int i, y]) ∧ ∀ xs, SqL K H a xs → xs[i]? = some y, fun i H => ∃ xs, SqL K H a xs ∧ xs.length ≤ i⟩
section
variable {X : Cx}
end
noncomputable def zaj (K : PySem.W.Frag) (a : Addr) (g : TG) (tb : TS) (D : Ends) (σ : St) (H : Hp) : Prop := ∃ W : Nat → Nat → St → Hp → Prop, (∃ m, W 0 m σ H) ∧ ∀ i m σ H, W i m σ H →
  ((Ite K a).stop i H ∧ D.nx σ H) ∨ ((Ite K a).go i H ∧ ∃ N : St → Hp → Prop, (∀ σ' H', N σ' H' → ∃ m', m' < m ∧ W (i + 1) m' σ' H') ∧ ∀ x H', (Ite K a).yld i H x H' → g x σ H' fun σ2 H2 => tb { D with nx := N, ct := N, bk := D.nx } σ2 H2)
theorem zaj.run {K : PySem.W.Frag} {a : Addr} {xs : List V} {g : TG} {tb : TS} {D : Ends} {σ : St} {H : Hp} (Pv : Nat → St → Hp → Prop) (h0 : Pv 0 σ H) (hl : ∀ i σ H, i ≤ xs.length → Pv i σ H → SqL K H a xs)
    (hs : ∀ i x σ H t, xs[i]? = some x → Pv i σ H → H t = none → ∀ R : St → Hp → Prop, (∀ σ' H', Pv (i + 1) σ' H' → R σ' H') → g (.ref t) σ (upd H t (.tup [.int i, x])) fun σ2 H2 => tb { D with nx := R, ct := R, bk := D.nx } σ2 H2) (hd : ∀ σ H, Pv xs.length σ H → D.nx σ H) :
    zaj K a g tb D σ H := by
  refine ⟨fun i m σ H => m = xs.length - i ∧ i ≤ xs.length ∧ Pv i σ H, ⟨xs.length, by simp, Nat.zero_le _, h0⟩, ?_⟩
  rintro i m σ H ⟨rfl, hi, p⟩
  have q := hl i σ H hi p
  by_cases hlt : i < xs.length
  · refine .inr ⟨⟨xs, xs[i], q, by simp [hlt]⟩, Pv (i + 1), fun σ' H' p' => ⟨xs.length - (i + 1), by omega, rfl, hlt, p'⟩, ?_⟩
    rintro _ _ ⟨t, y, rfl, ht, rfl, hy⟩
    exact hs i y σ H t (hy xs q) p ht _ fun _ _ z => z
  · have e : i = xs.length := by omega
    subst e
    exact .inl ⟨⟨xs, q, Nat.le_refl _⟩, hd σ H p⟩
noncomputable def zcu (lo c : Int) (n : Nat) : It := ⟨fun i _ => i < n, fun i H x H' => H' = H ∧ x = .int (lo + (i : Nat) * c), fun i _ => n ≤ i⟩
theorem Vs {P : Program} {w : World} {K : PySem.W.Frag} {tg : Expr} (it : Addr) (lo c : Int) (n : Nat) : Turn P w K tg (zcu lo c n) [it] it (fun i h => IsRangeIter h it (lo + (i : Nat) * c) ((n : Int) - (i : Nat)) c) where
  mem := by simp
  obj := fun i h st b hb => by
    have e : b = it := by simpa using hb
    subst e
    exact ⟨_, st, fun v z => by
      have z' : Data.fields _ = Data.cell v := z
      cases z'⟩
  keep := fun i h h' st k => k it (by simp) _ st
  item := by
    intro X hP hw hK hc i pins s σ H E I hf st hg
    subst hP hw hK
    obtain ⟨f0, f1, f2, f3, f4, f5⟩ := hf it (by simp)
    have W := Walks.range (prog := X.prog) (w := X.w) (I.ok.hd hc) it lo c n
    refine W.item i s _ _ hg st fun v h' tk hv st' kk => ?_
    obtain ⟨t, rfl⟩ := hv
    have I1 : Inv X pins σ H { s with heap := h', toks := tk } := I.turned (fun b o hb e => kk b o (by simpa using hb) e) f0 f1 f3 f4 f5
    exact ⟨_, rfl, YM (s := { s with heap := h', toks := tk }) (n := "range_iterator") st' rfl rfl (by decide) ⟨.int (lo + (i : Nat) * c), H, I1, ⟨t, rfl⟩, ⟨rfl, rfl⟩, st', fun b hb => (hf b hb).1⟩⟩
  done := by
    intro X hP hw hK hc i pins s σ H E I hf st hg
    subst hP hw hK
    obtain ⟨f0, f1, f2, f3, f4, f5⟩ := hf it (by simp)
    exact wpAny_pyNext_range_end (I.ok.hd hc) st (by have : n ≤ i := hg; omega) fun h' eb => ⟨rfl, I.turned (t' := s.toks) (fun b o hb e => eb b o hb e) f0 f1 f3 f4 f5⟩
  self := fun _ _ _ _ _ st h => wpAny_pyIter_rangeiter st h
end L2
namespace L2
open PySem PySem.Spec PyProof.Rows
section
variable {X : Cx} {tg : Expr}
noncomputable def R3 (i j c : Int) (n : Nat) : Prop := c ≠ 0 ∧ Builtin.Range.small i j c = true ∧ Builtin.Range.rangeSize i j c = n ∧ Builtin.divisionGoesByPylong (j - i) c = false
noncomputable def zak (ta : TA) : TI := fun σ H R => ta σ H fun vs H1 => ∃ (i j c : Int) (n : Nat), vs = [.int i, .int j, .int c] ∧ R3 i j c n ∧ R (zcu i c n) H1
theorem QY {a b c : Expr} {ta : TA} {p pos : Pos} (hg : Gl X "range") (hm : X.mg "range" = none) (ha : PA X [a, b, c] ta) (hs : starEach [a, b, c] X.env = (false, eval a X.env) :: starEach [b, c] X.env := by rfl)
    (hs2 : (backTo pos (starEach [b, c] X.env)).any (·.1) = false := by rfl) : PI X tg (.Call (.Name "range" p) [a, b, c] [] pos) (zak ta) := by
  intro pins s σ H R I h
  refine Call_ (uy I hg hm boot_range (PyProof.Rows.callWith_type1 (thn (ha pos pins s σ H _ I h) fun us s1 ⟨vs, H1, I1, r1, q1⟩ => ?_) hs hs2))
  obtain ⟨i, j, k, n, e, ⟨k0, sm, sz, dv⟩, q⟩ := q1
  subst e
  cases r1 with
  | cons r rr =>
    cases rr with
    | cons r' rr =>
      cases rr with
      | cons r2 rr =>
        cases rr
        obtain ⟨t, rfl⟩ := r
        obtain ⟨t', rfl⟩ := r'
        obtain ⟨t2, rfl⟩ := r2
        refine call_range_3 k0 ?_ (.inl dv)
        refine wpAny_pyIter_range (IsRange.new ..) sm ?_
        have I2 : Inv X pins σ H1 { s1 with heap := s1.heap.push { cls := .type "range", data := .fields #[.int i t, .int j t', .int k t2] } } := I1.kept (t' := s1.toks) fun b o e => Heap.get?_push_of_some _ e
        refine ⟨_, [(s1.heap.push { cls := .type "range", data := .fields #[.int i t, .int j t', .int k t2] }).objs.size], _, _, H1, rfl, I2.kept (t' := s1.toks) fun b o e => Heap.get?_push_of_some _ e, Vs _ i k n, ?_, fun b hb => ?_, q⟩
        · have e1 : i + ((0 : Nat) : Int) * k = i := by simp
          have e2 : ((n : Nat) : Int) - ((0 : Nat) : Int) = Builtin.Range.rangeSize i j k := by rw [sz]; simp
          show IsRangeIter _ _ (i + ((0 : Nat) : Int) * k) (((n : Nat) : Int) - ((0 : Nat) : Int)) k
          rw [e1, e2]
          exact Heap.get?_push_size _ rfl
        · have e : b = (s1.heap.push { cls := .type "range", data := .fields #[.int i t, .int j t', .int k t2] }).objs.size := by simpa using hb
          subst e
          exact I2.fpOk (Nat.le_refl _) (I2.hok.fresh (Nat.le_refl _))
end
section
variable {X : Cx}
noncomputable def srt (ns : List Int) : List Int := ns.mergeSort fun a b => decide (a ≤ b)
theorem zcv (ns : List Int) : (srt ns).Pairwise (· ≤ ·) := by
  have h := List.pairwise_mergeSort (le := fun a b : Int => decide (a ≤ b)) (fun a b c h1 h2 => by simp at h1 h2 ⊢; omega) (fun a b => by simp; omega) ns
  exact h.imp fun h => by simpa using h
theorem Xn : ∀ {a b : List Int}, a.Perm b → a.Pairwise (· ≤ ·) → b.Pairwise (· ≤ ·) → a = b
  | [], b, h, _, _ => by
    have := h.length_eq
    cases b with
    | nil => rfl
    | cons => cases this
  | x :: a, [], h, _, _ => by cases h.length_eq
  | x :: a, y :: b, h, ha, hb => by
    have e : x = y := by
      have h1 : x ∈ y :: b := h.mem_iff.mp (List.mem_cons_self ..)
      have h2 : y ∈ x :: a := h.mem_iff.mpr (List.mem_cons_self ..)
      have l1 : x ≤ y := by
        rcases List.mem_cons.mp h2 with z | z
        · exact Int.le_of_eq z.symm
        · exact (List.pairwise_cons.mp ha).1 y z
      have l2 : y ≤ x := by
        rcases List.mem_cons.mp h1 with z | z
        · exact Int.le_of_eq z.symm
        · exact (List.pairwise_cons.mp hb).1 x z
      omega
    subst e
    rw [Xn (List.Perm.cons_inv h) (List.pairwise_cons.mp ha).2 (List.pairwise_cons.mp hb).2]
theorem QZ {ns ns' : List Int} (h1 : ns'.Perm ns) (h2 : ns'.Pairwise (· ≤ ·)) : ns' = srt ns := Xn (h1.trans (List.mergeSort_perm ns _).symm) h2 (zcv ns)
theorem zbf (ns : List Int) : (srt ns).length = ns.length := (List.mergeSort_perm ns _).length_eq
theorem jx : ∀ {ns : List Int} {us : List Value}, Vals (ns.map V.int) us → IntsAre us ns
  | [], _, h => by cases h; exact .nil
  | n :: ns, _, h => by
    cases h with
    | cons h1 h2 =>
      obtain ⟨t, rfl⟩ := h1
      exact .cons n t (jx h2)
noncomputable def zal (K : PySem.W.Frag) : List V → Hp → VK → Prop := fun xs H Q => ∃ a ns, xs = [.ref a] ∧ SqL K H a (ns.map V.int) ∧ ns.length < 64 ∧ ∀ p, H p = none → Q (.ref p) (upd H p (.lst ((srt ns).map V.int)))
theorem Xo : y9 X (.builtin "sorted") (zal X.K) := by
  intro pins s σ H xs us Q I r h
  obtain ⟨a, ns, rfl, hq, hl, q⟩ := h
  obtain ⟨u, rfl, ru⟩ := r.one
  cases ru
  obtain ⟨its, rv, p, hz⟩ := I.list hq
  have hI := jx rv
  have hlen := rv.length
  rw [List.length_map] at hlen
  refine sorted_ints p.isList hI (by omega) fun out ns' a1 a2 a3 => ?_
  obtain ⟨e, he⟩ := sortedAll_at s.heap its out
  have en := QZ a2 a3
  subst en
  refine ⟨.ref (s.heap.objs.size + 1), _, I.laid (a := s.heap.objs.size + 1) (o := .lst ((srt ns).map V.int)) (t' := s.toks) (fun b o e => sortedAll_old e) (Nat.le_succ _) ⟨?_, out.toList, e, ju a1, ?_⟩, rfl, q _ (I.hok.fresh (Nat.le_succ _))⟩
  · rw [List.length_map, zbf, sizeLine_eq]; omega
  · rw [Array.toArray_toList]; exact he
noncomputable def vx (K : PySem.W.Frag) (H : Hp) : List V → List (Key × V) → Prop := Paired fun y kv => ∃ t, y = .ref t ∧ SqT K H t [kV kv.1, kv.2]
theorem vx.get {K : PySem.W.Frag} {H : Hp} : ∀ {ys : List V} {kvs : List (Key × V)} {j : Nat} {kv : Key × V}, vx K H ys kvs → kvs[j]? = some kv → ∃ t, ys[j]? = some (.ref t) ∧ SqT K H t [kV kv.1, kv.2]
  | _, _, _, _, .nil, e => by simp at e
  | _, _, 0, _, .cons r _, e => by
    simp at e
    subst e
    obtain ⟨t, rfl, h⟩ := r
    exact ⟨t, rfl, h⟩
  | _, _, j + 1, kv, .cons _ q, e => by
    obtain ⟨t, h1, h2⟩ := vx.get (j := j) (kv := kv) q (by simpa using e)
    exact ⟨t, by simpa using h1, h2⟩
theorem vx.snoc {K : PySem.W.Frag} {H : Hp} {y : V} {kv : Key × V} (hy : ∃ t, y = .ref t ∧ SqT K H t [kV kv.1, kv.2]) : ∀ {ys : List V} {kvs : List (Key × V)}, vx K H ys kvs → vx K H (ys ++ [y]) (kvs ++ [kv])
  | _, _, .nil => .cons hy .nil
  | _, _, .cons r q => .cons r (vx.snoc hy q)
theorem vx.keep {K : PySem.W.Frag} {H H' : Hp} {ys : List V} {kvs : List (Key × V)} (h : vx K H ys kvs) (k : ∀ b xs, SqT K H b xs → SqT K H' b xs) : vx K H' ys kvs :=
  Paired.imp' (fun y kv ⟨t, e, q⟩ => ⟨t, e, k t _ q⟩) h
noncomputable def Q0 (K : PySem.W.Frag) : List V → Hp → VK → Prop := fun xs H Q => ∃ a ys kvs, xs = [.ref a] ∧ SqL K H a ys ∧ vx K H ys kvs ∧ kvs.length ≤ 1000 ∧ ∀ p, H p = none → Q (.ref p) (upd H p (.dK (xY [] kvs)))
theorem UI (hc : X.calm = true) : y9 X (.type "dict") (Q0 X.K) := by
  intro pins s σ H xs us Q I r h
  obtain ⟨a, ys, kvs, rfl, hq, hp, hl, q⟩ := h
  obtain ⟨u, rfl, ru⟩ := r.one
  cases ru
  obtain ⟨its, rv, ⟨o, n, e, c, hnd, dt⟩, hz⟩ := I.list hq
  have l1 := Paired.length hp
  have l2 := rv.length
  have hval : ∃ ws : List (Key × Value), KV kvs ws ∧ ∀ (j : Nat) kv, ws[j]? = some kv → ∃ t key, its[j]? = some (.ref t) ∧ IsTup s.heap t #[key, kv.2] ∧ (yV X.prog X.w).is kv.1 key = true := by
    clear q dt e hz l1 l2 hq
    induction hp generalizing its with
    | nil => exact ⟨[], .nil, fun j kv hj => by simp at hj⟩
    | @cons y kv ys kvs hy t ih =>
      cases rv with
      | @cons _ w1 _ ws1 r1 r2 =>
        obtain ⟨ws, k1, k2⟩ := ih (by simp at hl; omega) _ r2
        obtain ⟨b, rfl, hb⟩ := hy
        cases r1
        obtain ⟨tt, rt, pt, _⟩ := I.tuple hb
        cases rt with
        | @cons _ key _ t1 rk t1r =>
          cases t1r with
          | @cons _ v _ t2 rv' t2r =>
            cases t2r
            refine ⟨(kv.1, v) :: ws, .cons ⟨rfl, rv'⟩ k1, fun j kv' hj => ?_⟩
            cases j with
            | zero =>
              cases hj
              obtain ⟨ot, e1, e2, _, e3⟩ := pt
              exact ⟨b, key, rfl, ⟨ot, e1, e2, _, e3⟩, Ze rk⟩
            | succ j =>
              obtain ⟨t', key', g1, g2, g3⟩ := k2 j kv' (by simpa using hj)
              exact ⟨t', key', by simpa using g1, g2, g3⟩
  obtain ⟨ws, k1, k2⟩ := hval
  have l3 := k1.length
  refine J8 (knd := yV X.prog X.w) (I.ok.hd hc) e c dt hnd (more := ws) (by simp; omega) (fun j kv hj => ?_) (by rw [sizeLine_eq]; omega) fun h' tk dd kk => ?_
  · obtain ⟨t, key, g1, g2, g3⟩ := k2 j kv hj
    exact ⟨t, key, by simpa using g1, g2, g3⟩
  · refine ⟨.ref s.heap.objs.size, _, I.laid (a := s.heap.objs.size) (o := .dK (xY [] kvs)) (t' := tk) kk (Nat.le_refl _) ?_, rfl, q _ (I.hok.fresh (Nat.le_refl _))⟩
    have hz2 : (xY [] kvs).length ≤ sizeLine := by
      have h1 := vw kvs []
      rw [List.length_nil] at h1
      rw [sizeLine_eq]; omega
    exact Zg hz2 (beq_eq_false_iff_ne.mpr (Ne.symm (Nat.ne_of_lt I.big))) (KV.merge k1 .nil) dd
noncomputable def VY : V → List V → Hp → VK → Prop := fun x vs H Q => ∃ a b kvs more, x = .ref a ∧ vs = [.ref b] ∧ H a = some (.dK kvs) ∧ H b = some (.dK more) ∧ a ≠ b ∧ kvs.length + more.length ≤ 1000 ∧ Q .non (upd H a (.dK (xY kvs more)))
theorem Yq : MtR X "dict.update" VY := by
  intro pins s σ H x xs v us Q I rx r h
  obtain ⟨a, b, kvs, more, rfl, rfl, e1, e2, hab, hl, q⟩ := h
  obtain ⟨u, rfl, ru⟩ := r.one
  cases ru
  cases rx
  obtain ⟨z1, hd1, vs, rel1, dd1⟩ := Zf I.hok e1
  obtain ⟨z2, hd2, ws, rel2, dd2⟩ := Zf I.hok e2
  have l1 := rel1.length
  have l2 := rel2.length
  have l3 := vw more kvs
  refine call_meetsIn PySem.F.slot_dict_update dd1.typeIs PySem.F.entry_dict_update (PySem.F.args_dict_update_2 _ _) (meets_dict_update (yV X.prog X.w) a b hab hd2)
    ⟨vs, ws, dd1, dd2, (by rw [sizeLine_eq]; omega), fun h' dd' _ hs => ⟨.non, _, ?_, rfl, q⟩⟩
  have he : ∃ q, h'.get? a = some q := let ⟨q, _, _, hq, _⟩ := dd'; ⟨q, hq⟩
  exact j7 I (by rw [e1]; exact True.intro) hs he (Zg (by rw [sizeLine_eq]; omega) hd1 (KV.merge rel2 rel1) dd')
end
end L2
namespace L2
open PySem PySem.Spec PyProof.Rows
section
variable {X : Cx} {pos : Pos}
end
structure CalM (P : Program) (w : World) (K : PySem.W.Frag) (mg : Str → Option Value) (base : Heap) (k : Nat) (x : Str) (C : Addr) (sp : Sp) : Prop where
  ex : ∃ (f : Addr) (fd : FuncData) (ps : List Str), Mk K C f ∧ FnOk P w K mg base CX0 k f fd ps sp ∧ mg x = some (.ref C) ∧ Binds K fd ps []
section
variable {X : Cx} {k : Nat} {sp : Sp} {C : Addr} {x : Str} {p pos : Pos} {e : Expr} {es : List Expr} {t : TA}
theorem zcw (c : CalM X.prog X.w X.K X.mg X.base k x C sp) (hr : Room (k + 1) X.A) (hg : Gl X x) (ha : PA X (e :: es) t) (hdb : (x == ("__debug__" : Str)) = false := by decide)
    (he : starEach (e :: es) X.env = (false, eval e X.env) :: starEach es X.env := by rfl) (hpl : (backTo pos (starEach es X.env)).any (·.1) = false := by rfl) : PE X (.Call (.Name x p) (e :: es) [] pos) (Uz C sp [] E0 t) := by
  obtain ⟨f, fd, ps, M, F, hm, hb⟩ := c.ex
  exact za3 M F hr hg hm hb .nil UE ha hdb he hpl
end
noncomputable def Itf (f : Nat → Int) (n : Nat) : It := ⟨fun i _ => i < n, fun i H x H' => H' = H ∧ x = .int (f i), fun i _ => n ≤ i⟩
noncomputable def LcF (n0 : Nat) (f : Nat → Int) (g : TG) (tt : TT) (te : TE) (σ0 : St) (H1 : Hp) (Q : VK) : Prop := ∀ D, H1 D = none → ∃ W : Nat → Nat → St → Hp → Prop, (∃ m, W 0 m σ0 (upd H1 D (.lst []))) ∧ ∀ i m σ' H', W i m σ' H' →
  ((Itf f n0).stop i H' ∧ Q (.ref D) H') ∨ ((Itf f n0).go i H' ∧ ∃ Nx : St → Hp → Prop, (∀ σ2 H2, Nx σ2 H2 → ∃ m', m' < m ∧ W (i + 1) m' σ2 H2) ∧
    ∀ x H2, (Itf f n0).yld i H' x H2 → g x σ' H2 fun σ3 H3 => tt σ3 H3 fun ok H4 => if ok = true then te σ3 H4 fun y H5 => ∃ ys, H5 D = some (.lst ys) ∧ ys.length < sizeLine ∧ Nx σ3 (upd H5 D (.lst (ys ++ [y]))) else Nx σ3 H4)
theorem LcF.by {n0 : Nat} {f : Nat → Int} {g : TG} {tt : TT} {te : TE} {σ0 : St} {H1 : Hp} {Q : VK} (Pv : Addr → Nat → St → Hp → Prop) (h0 : ∀ D, H1 D = none → Pv D 0 σ0 (upd H1 D (.lst [])))
    (hs : ∀ D i σ H, H1 D = none → i < n0 → Pv D i σ H → g (.int (f i)) σ H fun σ3 H3 => tt σ3 H3 fun ok H4 => if ok = true then te σ3 H4 fun y H5 => ∃ ys, H5 D = some (.lst ys) ∧ ys.length < sizeLine ∧ Pv D (i + 1) σ3 (upd H5 D (.lst (ys ++ [y]))) else Pv D (i + 1) σ3 H4)
    (hd : ∀ D σ H, H1 D = none → Pv D n0 σ H → Q (.ref D) H) : LcF n0 f g tt te σ0 H1 Q := by
  intro D hD
  refine ⟨fun i m σ H => m = n0 - i ∧ i ≤ n0 ∧ Pv D i σ H, ⟨n0, by simp, Nat.zero_le _, h0 D hD⟩, ?_⟩
  rintro i m σ H ⟨rfl, hi, p⟩
  by_cases hlt : i < n0
  · refine .inr ⟨hlt, Pv D (i + 1), fun σ' H' p' => ⟨n0 - (i + 1), by omega, rfl, hlt, p'⟩, fun x H' y => ?_⟩
    obtain ⟨e, y⟩ := y
    subst e y
    exact hs D i σ _ hD hlt p
  · have e : i = n0 := by omega
    subst e
    exact .inl ⟨Nat.le_refl _, hd D σ H hD p⟩
end L2
namespace L2
open PySem PySem.Spec PyProof.Rows
theorem Zj {X : Cx} {x : Str} {i : Int} {pos : Pos} (hg : Gl X x) (h : ∃ t, X.mg x = some (.int i t)) (hd : (x == ("__debug__" : Str)) = false := by decide) : PE X (.Name x pos) (tC (.int i)) := by
  obtain ⟨t, e⟩ := h
  exact ZP hg e ⟨t, rfl⟩ hd
noncomputable def zam (K : PySem.W.Frag) (a : Addr) (g : TG) (tb : TS) (D : Ends) (σ : St) (H : Hp) : Prop := ∃ W : Nat → Nat → St → Hp → Prop, (∃ m, W 0 m σ H) ∧ ∀ i m σ H, W i m σ H →
  ((Itt K a).stop i H ∧ D.nx σ H) ∨ ((Itt K a).go i H ∧ ∃ N : St → Hp → Prop, (∀ σ' H', N σ' H' → ∃ m', m' < m ∧ W (i + 1) m' σ' H') ∧ ∀ x H', (Itt K a).yld i H x H' → g x σ H' fun σ2 H2 => tb { D with nx := N, ct := N, bk := D.nx } σ2 H2)
theorem zam.run {K : PySem.W.Frag} {a : Addr} {xs : List V} {g : TG} {tb : TS} {D : Ends} {σ : St} {H : Hp} (Pv : Nat → St → Hp → Prop) (h0 : Pv 0 σ H) (hl : ∀ i σ H, i ≤ xs.length → Pv i σ H → SqT K H a xs)
    (hs : ∀ i x σ H, xs[i]? = some x → Pv i σ H → ∀ R : St → Hp → Prop, (∀ σ' H', Pv (i + 1) σ' H' → R σ' H') → g x σ H fun σ2 H2 => tb { D with nx := R, ct := R, bk := D.nx } σ2 H2) (hd : ∀ σ H, Pv xs.length σ H → D.nx σ H) : zam K a g tb D σ H :=
  zaU Pv h0 hl (fun i x σ H hi p => hs i x σ H hi p _ fun _ _ z => z) hd
end L2
namespace L2
open PySem PySem.Spec PyProof.Rows
noncomputable def cE : Expr → Option V
  | .Constant (.int i) _ _ => some (.int i)
  | .Constant .none _ _ => some .non
  | .Constant (.bool b) _ _ => some (.bl b)
  | .Constant (.str x) _ _ => some (.str x)
  | _ => none
noncomputable def UJ : List Expr → Option (List V)
  | [] => some []
  | e :: es => match cE e, UJ es with
    | some v, some vs => some (v :: vs)
    | _, _ => none
noncomputable def tCs (vs : List V) : TA := fun _ H Q => Q vs H
theorem zdF {X : Cx} {e : Expr} {v : V} (h : cE e = some v) : PE X e (tC v) := by
  unfold cE at h
  split at h
  · cases h; exact zc
  · cases h; exact xt
  · cases h; exact xr
  · cases h; exact ze
  · cases h
theorem zbg {e : Expr} {v : V} (h : cE e = some v) : Xk e = true := by
  unfold cE at h
  split at h <;> first | rfl | cases h
theorem Q1 {X : Cx} : ∀ {es : List Expr} {vs : List V}, UJ es = some vs → QA X es (tCs vs)
  | [], vs, h => by
    cases h
    exact qn
  | e :: es, vs, h => by
    simp only [UJ] at h
    split at h
    · rename_i v ws h1 h2
      cases h
      exact qc (zdF h1) (Q1 h2) (zbg h1)
    · cases h
theorem zbh {X : Cx} {es : List Expr} {vs : List V} {pos : Pos} (h : UJ es = some vs) : PE X (.List es pos) (ZT (tCs vs)) := xc (Q1 h)
end L2
namespace L2
open PySem PySem.W PySem.Calls PyProof.Rows
section
variable {X : Cx}
end
end L2
namespace PySem
open PySem PySem.W PySem.Calls PyProof.Rows
section
variable {prog : Program} {w : World} {A : Around} {R : Result → Shared → Prop} {I S : Addr} {fp wr : List Addr} {n : Nat} {P : Nat → Value → Prop} {St : Nat → Heap → Prop}
end
end PySem
namespace L2
open PySem PySem.W PySem.Calls PyProof.Rows
section
variable {X : Cx} {x : Str} {p pos : Pos} {e : Expr} {es : List Expr} {kws : List Keyword} {ks : List Str} {t tk : TA} {id : String} {r : List V → List V → Hp → VK → Prop}
end
end L2
namespace L2
open PySem PySem.Spec PyProof.Rows
structure CalT (P : Program) (w : World) (K : PySem.W.Frag) (mg : Str → Option Value) (base : Heap) (k : Nat) (m : Str) (C : Addr) (sp : Sp) : Prop where
  ex : ∃ (f : Addr) (fd : FuncData) (ps : List Str), Cls K C ∧ Meth K C m f ∧ FnOk P w K mg base CX0 k f fd ps sp ∧ Binds K fd ps []
section
variable {X : Cx} {k : Nat} {sp : Sp} {C : Addr} {m : Str} {apos pos : Pos} {o e : Expr} {es : List Expr} {ta : TE} {t : TA}
theorem zbi {pl : Sem Bool} (c : CalT X.prog X.w X.K X.mg X.base k m C sp) (hr : Room k X.A) (he : PE X o ta)
    (ht : eval (.Call (.Attribute o m apos) [] [] pos) X.env = (do
      let ov ← eval o X.env
      standAt apos.atName
      let (f, first) ← holding [ov] (getMethod ov m pl)
      callWith pos f first (backTo pos (starEach [] X.env)) (backToKw pos (keywordEach [] X.env))) := by rfl) : PE X (.Call (.Attribute o m apos) [] [] pos) (Uy C m sp [] E0 ta jq) := by
  obtain ⟨f, fd, ps, c, M, F, hb⟩ := c.ex
  exact JT (pl := pl) he c M F hr hb .nil UE ht
end
end L2
namespace L2
open PySem PySem.Spec PyProof.Rows
structure SV where
  wide : Int
  high : Int
  row : Int
  col : Int
  late : Bool
  ink : Int
  wrap : Bool
  putting : Bool
  home : Bool
  top : Int
  bottom : Int
  left : Int
  right : Int
  last : V
section
variable {p st kp : Addr} {S : SV}
end
structure Sta (K : PySem.W.Frag) (C : Addr) : Prop where
  cl : Cls K C
  n_picture : NoAttr K C "picture"
  n_wide : NoAttr K C "wide"
  n_high : NoAttr K C "high"
  n_row : NoAttr K C "row"
  n_column : NoAttr K C "column"
  n_late : NoAttr K C "late"
  n_ink : NoAttr K C "ink"
  n_wrap : NoAttr K C "wrap"
  n_putting : NoAttr K C "putting"
  n_home : NoAttr K C "home"
  n_top : NoAttr K C "top"
  n_bottom : NoAttr K C "bottom"
  n_left : NoAttr K C "left"
  n_right : NoAttr K C "right"
  n_stops : NoAttr K C "stops"
  n_kept : NoAttr K C "kept"
  n_last : NoAttr K C "last"
section
variable {sl : Addr} {S : SV}
end
noncomputable def Q2 (td ty : TE) : TE := fun σ H Q => td σ H fun x H1 => ty σ H1 fun y H2 => ∃ a kvs k v, x = .ref a ∧ H2 a = some (.dK kvs) ∧ y = kV k ∧ vq kvs k = some v ∧ Q v H2
noncomputable def Q3 (td ty tv : TE) : TS := fun D σ H => tv σ H fun v H1 => td σ H1 fun x H2 => ty σ H2 fun y H3 => ∃ a kvs k, x = .ref a ∧ H3 a = some (.dK kvs) ∧ y = kV k ∧ kvs.length < 1000 ∧ D.nx σ (upd H3 a (.dK (xU kvs k v)))
section
variable {X : Cx} {o i value : Expr} {td ty tv : TE} {pos pos' : Pos}
theorem PE.cl {e : Expr} {t : TE} (h : PE X e t) : PE X e (fun σ H Q => ∃ Q' : VK, t σ H Q' ∧ ∀ x H1, Q' x H1 → Q x H1) := fun pins s σ H Q I ⟨Q', q, w⟩ =>
  thn (h pins s σ H Q' I q) fun v s1 ⟨x, H1, I1, r1, q1⟩ => ⟨x, H1, I1, r1, w x H1 q1⟩
theorem zh (hu : X.A.units + 1 < cLine) (ho : PE X o td) (hi : PE X i ty) (hs : J5 i) : PE X (.Subscript o i pos) (Q2 td ty) := fun pins s σ H Q I h =>
  (zbd hu ho.cl hi.cl hs) pins s σ H Q I ⟨_, h, fun x H1 h1 => ⟨_, h1, fun y H2 ⟨a, kvs, k, v, e1, e2, e3, e4, q⟩ => ⟨a, v, e1, by rw [e3, ← e4]; exact jw.k e2, q⟩⟩⟩
theorem yH (hu : X.A.units + 1 < cLine) (ho : PE X o td) (hi : PE X i ty) (hv : PE X value tv) (hs : swapsWith value (some (.Subscript o i pos')) pos.line X.env = pure false) :
    PS X (.Assign [.Subscript o i pos'] value pos) (Q3 td ty tv) := fun pins s σ H D I h =>
  (zbe hu ho.cl hi.cl hv.cl hs) pins s σ H D I ⟨_, h, fun v H1 h1 => ⟨_, h1, fun x H2 h2 => ⟨_, h2, fun y H3 ⟨a, kvs, k, e1, e2, e3, e4, q⟩ => ⟨a, _, e1, by rw [e3]; exact kG.k e2 (ve (by omega)), q⟩⟩⟩⟩
end
end L2
namespace L2
open PySem PySem.Spec PyProof.Rows
noncomputable def Sh (i : Int) : Prop := -1000000 ≤ i ∧ i ≤ 1000000
theorem Yr {K : PySem.W.Frag} {H : Hp} : ∀ ns : List Int, Reps K H (ns.map .int) (ns.map V.int)
  | [] => rfl
  | n :: ns => ⟨_, _, rfl, rfl, Yr ns⟩
theorem Sh.log {i : Int} (h : Sh i) : i.natAbs.log2 < 20 := by
  obtain ⟨h1, h2⟩ := h
  by_cases h0 : i.natAbs = 0
  · rw [h0]; decide
  · exact (Nat.log2_lt h0).mpr (by omega)
theorem Sh.w {i : Int} (h : Sh i) : PyData.weight (.int i) ≤ 21 := by
  have := h.log
  simp only [PyData.weight]
  split <;> omega
theorem Sh.short {i : Int} (h : Sh i) : PyData.intsShort 13 (.int i) = true := by
  obtain ⟨h1, h2⟩ := h
  have q : (toString i).length ≤ 7 + 1 := int_text_length_le10 (by decide) (show i.natAbs < 10 ^ 7 by omega)
  have e : (PyData.int i).shown.length = (toString i).length := by
    simp only [PyData.shown]
    exact PySem.ofString_length _
  simp only [PyData.intsShort, decide_eq_true_eq]
  omega
end L2
namespace L2
open PySem PySem.Spec PyProof.Rows
noncomputable def DK (K : PySem.W.Frag) (a : Addr) (D : List (Int × Int)) : Prop := KTD.keyedLook (fun b => K.lookup b) a (D.map fun p => (p.1, PyData.int p.2)) = true
noncomputable def xN (D : List (Int × Int)) (k : Int) : Option Int := match D with
  | [] => none
  | (i, d) :: r => if k = i then some d else xN r k
theorem ko (k : Int) : ∀ D : List (Int × Int), KTD.datumAt k (D.map fun p => (p.1, PyData.int p.2)) = (xN D k).map PyData.int
  | [] => rfl
  | (i, d) :: D => by
    have ih := ko k D
    show (if decide (k = i) = true then some (PyData.int d) else KTD.datumAt k (D.map fun p => (p.1, PyData.int p.2))) = ((if k = i then some d else xN D k).map PyData.int)
    by_cases h : k = i
    · rw [if_pos (decide_eq_true h), if_pos h, Option.map_some]
    · rw [if_neg (by simpa using h), if_neg h, ih]
noncomputable def UK (K : PySem.W.Frag) (to : TE) (t : TA) : TE := fun σ H Q => to σ H fun x H1 => ∃ a D, x = .ref a ∧ DK K a D ∧ t σ H1 fun xs H2 => ∃ i d, xs = [.int i, .int d] ∧ Q (.int ((xN D i).getD d)) H2
theorem zbj {X : Cx} {o e : Expr} {es : List Expr} {to : TE} {t : TA} {apos cpos : Pos} (ho : PE X o to) (ha : PA X (e :: es) t)
    (hbase : attributeBase o "get" X.env (eval o X.env) = eval o X.env := by rfl)
    (hfew : ((backTo cpos (starEach (e :: es) X.env)).all (fun x => !x.1) && (backToKw cpos (keywordEach [] X.env)).all (fun x => x.1.isSome)
      && decide ((e :: es).length + ([] : List Keyword).length + (if ([] : List Keyword).isEmpty then 0 else 1) < 30)) = true := by rfl)
    (hline : (apos.endLine == cpos.line) = true := by rfl) (hs : starEach (e :: es) X.env = (false, eval e X.env) :: starEach es X.env := by rfl) (hplain : (backTo cpos (starEach es X.env)).any (·.1) = false := by rfl) :
    PE X (.Call (.Attribute o "get" apos) (e :: es) [] cpos) (UK X.K to t) := by
  intro pins s σ H Q I h
  refine wpAny_Call_method_late hbase hfew hline rfl (thn (ho pins s σ H _ I h) fun v s1 ⟨x, H1, I1, r1, a, D, ex, hD, q1⟩ => ?_)
  subst ex
  cases r1
  have KD := KTD.keyed_of_look (h := s1.heap) (fun b o q => I1.kIn b o q) hD
  obtain ⟨_, kvs, ⟨ob, bs, ep, hob, hc, _⟩, _⟩ := id (KD X.prog X.w)
  refine ⟨"dict", "dict.get", PySem.F.plainAttrs_dict, PySem.F.slot_dict_get, PySem.F.type_dict_get, ⟨ob, hob, hc.1⟩, fun b e => by injection e with e; subst e; exact ⟨ob, hob, hc.2.1⟩, ?_⟩
  have hA := ha cpos pins s1 σ H1 _ I1 q1
  rw [hs] at hA ⊢
  refine Calls.callWith_builtin (by show (false || (backTo cpos (starEach es X.env)).any (·.1)) = false; rw [hplain] <;> rfl) (Calls.evalArgs_plain ?_)
  refine thn hA fun us s2 ⟨vs, H2, I2, r2, i, d, ev, q2⟩ => ?_
  subst ev
  obtain ⟨u1, u2, rfl, h1, h2⟩ := r2.two
  obtain ⟨t1, rfl⟩ := h1
  obtain ⟨t2, rfl⟩ := h2
  have KD2 := KTD.keyed_of_look (h := s2.heap) (fun b o q => I2.kIn b o q) hD
  refine call_get2_intTab (KD2 X.prog X.w) (.int d t2) fun v hv => ?_
  rw [KTD.lookup_keyed, ko] at hv
  have hv' : PyProof.V.Flat v (PyData.int ((xN D i).getD d)) := by
    cases e : xN D i with
    | none => rw [e] at hv; exact hv
    | some z => rw [e] at hv; exact hv
  generalize (xN D i).getD d = z at hv' q2
  cases hv' s2.heap with
  | int _ t => exact ⟨.int _, H2, I2.tok _, ⟨t, rfl⟩, q2⟩
end L2
namespace L2
open PySem PySem.Spec PyProof.Rows
inductive W where
  | d (x : PyData)
  | own (a : Addr)
  | row (a : Addr) (i : Nat)
inductive OO where
  | lst (ws : List W)
  | dK (kvs : List (Key × W))
  | ins (C dx : Addr) (fs : List (Str × W))
  | grid (rows : List (List PyData))
noncomputable abbrev OM := Addr → Option OO
noncomputable def updO (O : OM) (a : Addr) (o : OO) : OM := fun b => if b = a then some o else O b
noncomputable def del (O : OM) (a : Addr) : OM := fun b => if b = a then none else O b
theorem zl {O : OM} {a : Addr} {o : OO} : updO O a o a = some o := by simp [updO]
theorem zg {O : OM} {a b : Addr} {o : OO} (h : b ≠ a) : updO O a o b = O b := by simp [updO, h]
theorem xv {O : OM} {a : Addr} : del O a a = none := by simp [del]
theorem xI {O : OM} {a b : Addr} (h : b ≠ a) : del O a b = O b := by simp [del, h]
theorem xR {O : OM} {a : Addr} {o u : OO} : updO (updO O a o) a u = updO O a u := by
  funext b; unfold updO; split <;> rfl
theorem neO {O : OM} {a b : Addr} {o : OO} (h : O a = some o) (h' : O b = none) : a ≠ b := by
  intro e; subst e; rw [h] at h'; cases h'
structure Gh where
  Z : Hp
  G : Addr → Option (List Addr)
  F : Hp
structure Le (Γ Γ' : Gh) : Prop where
  f : Γ'.F = Γ.F
  z : Same Γ.Z Γ'.Z
  g : ∀ a rs, Γ.G a = some rs → ∃ more, Γ'.G a = some (rs ++ more)
theorem Le.refl (Γ : Gh) : Le Γ Γ := ⟨rfl, Same.refl _, fun _ rs h => ⟨[], by rw [List.append_nil]; exact h⟩⟩
theorem Le.trans {Γ Γ1 Γ2 : Gh} (a : Le Γ Γ1) (b : Le Γ1 Γ2) : Le Γ Γ2 := ⟨b.f.trans a.f, a.z.trans b.z, fun x rs h => by
  obtain ⟨m, h1⟩ := a.g x rs h
  obtain ⟨m2, h2⟩ := b.g x _ h1
  exact ⟨m ++ m2, by rw [← List.append_assoc]; exact h2⟩⟩
theorem Le.zOnly {Γ : Gh} {Z : Hp} (h : Same Γ.Z Z) : Le Γ ⟨Z, Γ.G, Γ.F⟩ := ⟨rfl, h, fun _ rs h => ⟨[], by rw [List.append_nil]; exact h⟩⟩
section
variable (K : PySem.W.Frag)
noncomputable def relW (Γ : Gh) : W → V → Prop
  | .d x, v => Rep K Γ.Z x v
  | .own a, v => v = .ref a
  | .row a i, v => ∃ rs r, Γ.G a = some rs ∧ rs[i]? = some r ∧ v = .ref r
noncomputable abbrev relWs (Γ : Gh) : List W → List V → Prop := Paired (relW K Γ)
noncomputable def qD (Γ : Gh) : Option W → Option V → Prop
  | some w, some v => relW K Γ w v
  | none, _ => True
  | _, _ => False
noncomputable abbrev relR (Γ : Gh) : List (Option W) → St → Prop := Paired (qD K Γ)
noncomputable def yP {κ : Type} (Γ : Gh) : List (κ × W) → List (κ × V) → Prop := Paired fun p q => p.1 = q.1 ∧ relW K Γ p.2 q.2
noncomputable def ObjW (Γ : Gh) (O : OM) (H : Hp) (a : Addr) : OO → Prop
  | .lst ws => ∃ vs, H a = some (.lst vs) ∧ relWs K Γ ws vs
  | .dK kvs => ∃ vs, H a = some (.dK vs) ∧ yP K Γ kvs vs
  | .ins C dx fs => ∃ vs, H a = some (.ins C dx vs) ∧ yP K Γ fs vs
  | .grid rows => ∃ rs, Γ.G a = some rs ∧ H a = some (.lst (rs.map V.ref)) ∧ rs.length = rows.length ∧ rs.Nodup ∧
      ∀ (i : Nat) (r : Addr) (ds : List PyData), rs[i]? = some r → rows[i]? = some ds → Γ.Z r = none ∧ O r = none ∧ ∃ vs, H r = some (.lst vs) ∧ Reps K Γ.Z ds vs
structure Sim (Γ : Gh) (O : OM) (H : Hp) : Prop where
  z : Same Γ.Z H
  o : ∀ a oo, O a = some oo → Γ.Z a = none ∧ ObjW K Γ O H a oo
  gd : ∀ a rs, Γ.G a = some rs → ∃ o, H a = some o
  f : Same Γ.F H
  gn : ∀ a oo, O a = some oo → (∀ rows, oo ≠ .grid rows) → Γ.G a = none
  fg : ∀ a o, Γ.F a = some o → Γ.G a = none
  fd : ∀ a o, Γ.F a = some o → Γ.Z a = none ∧ O a = none ∧ ∀ b rows rs, O b = some (.grid rows) → Γ.G b = some rs → a ∉ rs
  u : ∀ a b ra rb rs ss r, O a = some (.grid ra) → O b = some (.grid rb) → Γ.G a = some rs → Γ.G b = some ss → r ∈ rs → r ∈ ss → a = b
end
section
variable {K : PySem.W.Frag} {Γ Γ' : Gh} {O : OM} {H H' : Hp}
theorem relW.mono (h : Le Γ Γ') : ∀ {w : W} {v : V}, relW K Γ w v → relW K Γ' w v
  | .d x, v, r => Rep.same h.z x v r
  | .own a, v, r => r
  | .row a i, v, ⟨rs, r, e, f, g⟩ => by
    obtain ⟨m, e'⟩ := h.g _ _ e
    have hi : i < rs.length := (List.getElem?_eq_some_iff.mp f).1
    exact ⟨rs ++ m, r, e', by rw [List.getElem?_append_left hi]; exact f, g⟩
theorem relWs.mono (h : Le Γ Γ') {ws : List W} {vs : List V} (r : relWs K Γ ws vs) : relWs K Γ' ws vs := Paired.mapP r fun _ _ z => z.mono h
theorem qD.mono (h : Le Γ Γ') : ∀ {w : Option W} {v : Option V}, qD K Γ w v → qD K Γ' w v
  | some w, some v, r => relW.mono h r
  | none, _, _ => trivial
  | some _, none, r => r.elim
theorem relR.mono (h : Le Γ Γ') {ρ : List (Option W)} {σ : St} (r : relR K Γ ρ σ) : relR K Γ' ρ σ := Paired.mapP r fun _ _ z => z.mono h
theorem yP.mono {κ : Type} (h : Le Γ Γ') {a : List (κ × W)} {b : List (κ × V)} (r : yP K Γ a b) : yP K Γ' a b := Paired.mapP r fun _ _ z => ⟨z.1, z.2.mono h⟩
theorem relR.get {ρ : List (Option W)} {σ : St} : ∀ {i : Nat} {w : W}, relR K Γ ρ σ → ρ[i]? = some (some w) → ∃ v, σ[i]? = some (some v) ∧ relW K Γ w v := by
  intro i w r
  induction r generalizing i with
  | nil => intro e; simp at e
  | cons h t ih =>
    rename_i x y xs ys
    intro e
    cases i with
    | zero =>
      simp at e
      subst e
      cases y with
      | none => exact h.elim
      | some v => exact ⟨v, rfl, h⟩
    | succ i => simpa using ih (i := i) (by simpa using e)
theorem Paired.getP {α β : Type} {F : α → β → Prop} {xs : List α} {ys : List β} (r : Paired F xs ys) : ∀ {i : Nat} {x : α}, xs[i]? = some x → ∃ y, ys[i]? = some y ∧ F x y := by
  induction r with
  | nil => intro i x e; simp at e
  | cons h t ih =>
    intro i x e
    cases i with
    | zero => simp at e; subst e; exact ⟨_, rfl, h⟩
    | succ i => simpa using ih (i := i) (by simpa using e)
theorem Paired.setP {α β : Type} {F : α → β → Prop} {xs : List α} {ys : List β} {x : α} {y : β} (r : Paired F xs ys) (h : F x y) : ∀ {i : Nat}, Paired F (xs.set i x) (ys.set i y) := by
  induction r with
  | nil => intro i; exact .nil
  | cons g t ih =>
    intro i
    cases i with
    | zero => exact .cons h t
    | succ i => exact .cons g ih
theorem Paired.appP {α β : Type} {F : α → β → Prop} {xs xs' : List α} {ys ys' : List β} (r : Paired F xs ys) (s : Paired F xs' ys') : Paired F (xs ++ xs') (ys ++ ys') := by
  induction r with
  | nil => exact s
  | cons h t ih => exact .cons h ih
theorem Paired.takeP {α β : Type} {F : α → β → Prop} {xs : List α} {ys : List β} (r : Paired F xs ys) : ∀ n, Paired F (xs.take n) (ys.take n) := by
  induction r with
  | nil => intro n; simp; exact .nil
  | cons h t ih =>
    intro n
    cases n with
    | zero => exact .nil
    | succ n => exact .cons h (ih n)
theorem Paired.dropP {α β : Type} {F : α → β → Prop} {xs : List α} {ys : List β} (r : Paired F xs ys) : ∀ n, Paired F (xs.drop n) (ys.drop n) := by
  induction r with
  | nil => intro n; simp; exact .nil
  | cons h t ih =>
    intro n
    cases n with
    | zero => exact .cons h t
    | succ n => exact ih n
theorem yZ : ∀ {ds : List PyData} {vs : List V}, Reps K Γ.Z ds vs → relWs K Γ (ds.map .d) vs
  | [], _, h => by rw [show _ = [] from h]; exact .nil
  | d :: ds, _, h => by
    obtain ⟨x, r, rfl, h1, h2⟩ := h
    exact .cons h1 (yZ h2)
theorem yy : ∀ {ds : List PyData} {vs : List V}, relWs K Γ (ds.map .d) vs → Reps K Γ.Z ds vs
  | [], _, h => by cases h; rfl
  | d :: ds, _, h => by
    cases h with
    | cons a b => exact ⟨_, _, rfl, a, yy b⟩
noncomputable def yR (O : OM) : W → Option (List W)
  | .d (.list ds) => some (ds.map .d)
  | .own a => match O a with
    | some (.lst ws) => some ws
    | some (.grid rows) => some ((List.range rows.length).map (.row a))
    | _ => none
  | .row a i => match O a with
    | some (.grid rows) => (rows[i]?).map (·.map .d)
    | _ => none
  | _ => none
noncomputable def xA : W → Option (List PyData)
  | .d (.tuple ds) => some ds
  | _ => none
theorem vm {w : W} {v : V} {ds : List PyData} (S : Sim K Γ O H) (r : relW K Γ w v) (e : xA w = some ds) : ∃ a vs, v = .ref a ∧ SqT K H a vs ∧ relWs K Γ (ds.map .d) vs := by
  cases w with
  | d x =>
    cases x with
    | tuple es =>
      simp [xA] at e
      subst e
      obtain ⟨a, xs, e1, h1, h2⟩ := r
      exact ⟨a, xs, e1, h1.same S.z, yZ h2⟩
    | _ => simp [xA] at e
  | own a => simp [xA] at e
  | row a i => simp [xA] at e
theorem xy {w : W} {v : V} {ws : List W} (S : Sim K Γ O H) (r : relW K Γ w v) (e : yR O w = some ws) : ∃ a vs, v = .ref a ∧ SqL K H a vs ∧ relWs K Γ ws vs := by
  cases w with
  | d x =>
    cases x with
    | list es =>
      simp [yR] at e
      subst e
      obtain ⟨a, xs, e1, h1, h2⟩ := r
      exact ⟨a, xs, e1, h1.same S.z, yZ h2⟩
    | _ => simp [yR] at e
  | own a =>
    cases (show v = .ref a from r)
    simp only [yR] at e
    split at e
    · rename_i us h
      cases e
      obtain ⟨_, vs, h1, h2⟩ := S.o _ _ h
      exact ⟨a, vs, rfl, SqL.of h1, h2⟩
    · rename_i rows h
      cases e
      obtain ⟨_, rs, hg, h1, hl, _, _⟩ := S.o _ _ h
      refine ⟨a, _, rfl, SqL.of h1, ?_⟩
      rw [← hl]
      have key : ∀ (ss : List Addr) (k : Nat), (∀ i, ss[i]? = rs[k + i]?) → relWs K Γ ((List.range' k ss.length).map (W.row a)) (ss.map V.ref) := by
        intro ss
        induction ss with
        | nil => intro k _; exact .nil
        | cons s ss ih =>
          intro k hk
          refine .cons ⟨rs, s, hg, ?_, rfl⟩ (ih (k + 1) fun i => ?_)
          · have := hk 0; simpa using this.symm
          · have := hk (i + 1)
            rw [List.getElem?_cons_succ] at this
            rw [this]
            congr 1
            omega
      have h0 := key rs 0 (fun i => by rw [Nat.zero_add])
      rw [List.range_eq_range']
      exact h0
    · cases e
  | row a i =>
    obtain ⟨rs, r0, hg, hr, rfl⟩ := r
    simp only [yR] at e
    split at e
    · rename_i rows h
      cases hi : rows[i]? with
      | none => rw [hi] at e; cases e
      | some ds =>
        rw [hi] at e
        cases e
        obtain ⟨_, rs', hg', h1, hl, _, hrow⟩ := S.o _ _ h
        rw [hg] at hg'
        cases hg'
        obtain ⟨_, _, vs, h2, h3⟩ := hrow i r0 ds hr hi
        exact ⟨r0, vs, rfl, SqL.of h2, yZ h3⟩
    · cases e
noncomputable def yM : List W → Option (List PyData)
  | [] => some []
  | .d x :: ws => (yM ws).map (x :: ·)
  | _ :: _ => none
theorem xV : ∀ ds : List PyData, yM (ds.map .d) = some ds
  | [] => rfl
  | d :: ds => by simp [yM, xV ds]
theorem x0 : ∀ {ws : List W} {ds : List PyData}, yM ws = some ds → ws = ds.map .d
  | [], ds, e => by cases e; rfl
  | .d x :: ws, ds, e => by
    simp [yM] at e
    obtain ⟨es, h1, h2⟩ := e
    subst h2
    rw [x0 h1]
    rfl
  | .own _ :: _, _, e => by simp [yM] at e
  | .row _ _ :: _, _, e => by simp [yM] at e
noncomputable def vy (O : OM) : W → Option PyData
  | .d x => some x
  | .own a => match O a with
    | some (.lst ws) => (yM ws).map .list
    | some (.grid rows) => some (.list (rows.map .list))
    | _ => none
  | .row a i => match O a with
    | some (.grid rows) => (rows[i]?).map .list
    | _ => none
theorem qE {w : W} {v : V} {x : PyData} (S : Sim K Γ O H) (r : relW K Γ w v) (e : vy O w = some x) : Rep K H x v := by
  cases w with
  | d y => cases e; exact Rep.same S.z _ _ r
  | own a =>
    cases (show v = .ref a from r)
    simp only [vy] at e
    split at e
    · rename_i ws h
      cases hd : yM ws with
      | none => rw [hd] at e; cases e
      | some ds =>
        rw [hd] at e
        cases e
        obtain ⟨_, vs, h1, h2⟩ := S.o _ _ h
        rw [x0 hd] at h2
        exact ⟨a, vs, rfl, SqL.of h1, Reps.same S.z _ _ (yy h2)⟩
    · rename_i rows h
      cases e
      obtain ⟨_, rs, hg, h1, hl, _, hrow⟩ := S.o _ _ h
      refine ⟨a, _, rfl, SqL.of h1, ?_⟩
      have key : ∀ (rows : List (List PyData)) (rs : List Addr), rs.length = rows.length → (∀ (i : Nat) (r : Addr) (ds : List PyData), rs[i]? = some r → rows[i]? = some ds → ∃ vs, H r = some (.lst vs) ∧ Reps K Γ.Z ds vs) → Reps K H (rows.map .list) (rs.map V.ref) := by
        intro rows
        induction rows with
        | nil => intro rs hl _; cases rs with | nil => rfl | cons _ _ => simp at hl
        | cons row rows ih =>
          intro rs hl hr
          cases rs with
          | nil => simp at hl
          | cons r rs =>
            obtain ⟨vs, h1, h2⟩ := hr 0 r row rfl rfl
            exact ⟨.ref r, _, rfl, ⟨r, vs, rfl, SqL.of h1, Reps.same S.z _ _ h2⟩, ih rs (by simpa using hl) fun i r ds a b => hr (i + 1) r ds (by simpa using a) (by simpa using b)⟩
      exact key rows rs hl fun i r ds a b => (hrow i r ds a b).2.2
    · cases e
  | row a i =>
    obtain ⟨rs, r0, hg, hr, rfl⟩ := r
    simp only [vy] at e
    split at e
    · rename_i rows h
      cases hi : rows[i]? with
      | none => rw [hi] at e; cases e
      | some ds =>
        rw [hi] at e
        cases e
        obtain ⟨_, rs', hg', h1, hl, _, hrow⟩ := S.o _ _ h
        rw [hg] at hg'
        cases hg'
        obtain ⟨_, _, vs, h2, h3⟩ := hrow i r0 ds hr hi
        exact ⟨r0, vs, rfl, SqL.of h2, Reps.same S.z _ _ h3⟩
    · cases e
theorem Sim.free (S : Sim K Γ O H) {p : Addr} (hp : H p = none) : Γ.Z p = none ∧ O p = none ∧ Γ.G p = none := by
  refine ⟨S.z.free hp, ?_, ?_⟩
  · cases e : O p with
    | none => rfl
    | some oo =>
      obtain ⟨_, h⟩ := S.o _ _ e
      cases oo with
      | lst ws => obtain ⟨vs, h1, _⟩ := h; rw [hp] at h1; cases h1
      | dK ws => obtain ⟨vs, h1, _⟩ := h; rw [hp] at h1; cases h1
      | ins C dx ws => obtain ⟨vs, h1, _⟩ := h; rw [hp] at h1; cases h1
      | grid rows => obtain ⟨rs, _, h1, _⟩ := h; rw [hp] at h1; cases h1
  · cases e : Γ.G p with
    | none => rfl
    | some rs =>
      obtain ⟨o, h⟩ := S.gd _ _ e
      rw [hp] at h
      cases h
theorem ObjW.keep {a : Addr} {oo : OO} (h : ObjW K Γ O H a oo) (hl : Le Γ Γ') {O' : OM} (ha : H' a = H a) (hG : Γ'.G a = Γ.G a) (hr : ∀ rs r, Γ.G a = some rs → (∃ rows, oo = .grid rows) → r ∈ rs → H' r = H r ∧ Γ'.Z r = Γ.Z r ∧ O' r = O r) : ObjW K Γ' O' H' a oo := by
  cases oo with
  | lst ws => obtain ⟨vs, h1, h2⟩ := h; exact ⟨vs, by rw [ha]; exact h1, h2.mono hl⟩
  | dK ws => obtain ⟨vs, h1, h2⟩ := h; exact ⟨vs, by rw [ha]; exact h1, h2.mono hl⟩
  | ins C dx ws => obtain ⟨vs, h1, h2⟩ := h; exact ⟨vs, by rw [ha]; exact h1, h2.mono hl⟩
  | grid rows =>
    obtain ⟨rs, hg, h1, h2, hn, h3⟩ := h
    refine ⟨rs, by rw [hG]; exact hg, by rw [ha]; exact h1, h2, hn, fun i r ds e1 e2 => ?_⟩
    obtain ⟨q1, q2, q3⟩ := hr rs r hg ⟨rows, rfl⟩ (List.mem_of_getElem? e1)
    obtain ⟨z1, z2, vs, z3, z4⟩ := h3 i r ds e1 e2
    exact ⟨by rw [q2]; exact z1, by rw [q3]; exact z2, vs, by rw [q1]; exact z3, Reps.same hl.z _ _ z4⟩
theorem Sim.rowIn (S : Sim K Γ O H) {a : Addr} {rows : List (List PyData)} {rs : List Addr} {r : Addr} (ho : O a = some (.grid rows)) (hg : Γ.G a = some rs) (hr : r ∈ rs) : Γ.Z r = none ∧ O r = none ∧ ∃ vs, H r = some (.lst vs) := by
  obtain ⟨_, rs', hg', h1, hl, _, hrow⟩ := S.o _ _ ho
  rw [hg] at hg'
  cases hg'
  obtain ⟨i, hi, rfl⟩ := List.mem_iff_getElem.mp hr
  obtain ⟨z1, z2, vs, z3, _⟩ := hrow i rs[i] (rows[i]'(by omega)) (List.getElem?_eq_getElem hi) (List.getElem?_eq_getElem (by omega))
  exact ⟨z1, z2, vs, z3⟩
theorem Sim.newD (S : Sim K Γ O H) {p : Addr} (hp : H p = none) (o : HO) : Le Γ ⟨upd Γ.Z p o, Γ.G, Γ.F⟩ ∧ Sim K ⟨upd Γ.Z p o, Γ.G, Γ.F⟩ O (upd H p o) := by
  obtain ⟨hz, hO, hG⟩ := S.free hp
  have le : Le Γ ⟨upd Γ.Z p o, Γ.G, Γ.F⟩ := Le.zOnly (xL hz)
  have hF := S.f.free hp
  refine ⟨le, ⟨fun b u e => ?_, fun a oo e => ?_, fun a rs e => ?_, vP S.f hF, S.gn, S.fg, fun a o' e => ?_, S.u⟩⟩
  · replace e : upd Γ.Z p o b = some u := e
    by_cases hb : b = p
    · subst hb; rw [zx] at e; rw [zx]; exact e
    · rw [zj hb] at e; rw [zj hb]; exact S.z _ _ e
  · have hap : a ≠ p := fun z => by rw [z, hO] at e; cases e
    obtain ⟨h1, h2⟩ := S.o _ _ e
    refine ⟨by show upd Γ.Z p o a = none; rw [zj hap]; exact h1, h2.keep le (zj hap) rfl fun rs r hg ⟨rows, hrw⟩ hr => ?_⟩
    subst hrw
    obtain ⟨_, _, vs, q⟩ := S.rowIn e hg hr
    have hrp : r ≠ p := fun z => by rw [z, hp] at q; cases q
    exact ⟨zj hrp, zj hrp, rfl⟩
  · obtain ⟨o', h⟩ := S.gd _ _ e
    exact ⟨o', by rw [zj (yS h hp)]; exact h⟩
  · obtain ⟨q1, q2, q3⟩ := S.fd a o' e
    exact ⟨(zj (yS e hF)).trans q1, q2, q3⟩
theorem Sim.newO (S : Sim K Γ O H) {p : Addr} (hp : H p = none) {o : HO} {oo : OO} (hg : ∀ rows, oo ≠ .grid rows) (ho : ObjW K Γ O (upd H p o) p oo) : Sim K Γ (updO O p oo) (upd H p o) := by
  obtain ⟨hz, hO, hG⟩ := S.free hp
  have hF := S.f.free hp
  have k1 : ∀ {x : Addr} {rx : List (List PyData)}, updO O p oo x = some (.grid rx) → O x = some (.grid rx) := fun {x rx} h => by
    by_cases hx : x = p
    · subst hx; rw [zl] at h; cases h; exact absurd rfl (hg rx)
    · rw [zg hx] at h; exact h
  refine ⟨fun b u e => ?_, fun a o' e => ?_, fun a rs e => ?_, vP S.f hF, fun a o' e hn => ?_, S.fg, fun a o' e => ?_, fun a b ra rb rs ss r e1 e2 => S.u a b ra rb rs ss r (k1 e1) (k1 e2)⟩
  · rw [zj (fun z => by rw [z, hz] at e; cases e)]; exact S.z _ _ e
  · by_cases hap : a = p
    · subst hap
      rw [zl] at e
      cases e
      refine ⟨hz, ho.keep (Le.refl _) rfl rfl fun rs r h1 ⟨rows, h2⟩ => absurd h2 (hg rows)⟩
    · rw [zg hap] at e
      obtain ⟨h1, h2⟩ := S.o _ _ e
      refine ⟨h1, h2.keep (Le.refl _) (zj hap) rfl fun rs r hg' ⟨rows, hrw⟩ hr => ?_⟩
      subst hrw
      obtain ⟨_, q2, vs, q⟩ := S.rowIn e hg' hr
      have hrp : r ≠ p := fun z => by rw [z, hp] at q; cases q
      exact ⟨zj hrp, rfl, zg hrp⟩
  · obtain ⟨o', h⟩ := S.gd _ _ e
    exact ⟨o', by rw [zj (yS h hp)]; exact h⟩
  · by_cases hap : a = p
    · rw [hap]; exact hG
    · rw [zg hap] at e; exact S.gn a o' e hn
  · obtain ⟨q1, q2, q3⟩ := S.fd a o' e
    exact ⟨q1, by rw [zg (yS e hF)]; exact q2, fun b rows rs e1 => q3 b rows rs (k1 e1)⟩
theorem Sim.put (S : Sim K Γ O H) {a : Addr} {oo o1 : OO} {o : HO} (h0 : O a = some o1) (hn : ∀ rows, o1 ≠ .grid rows) (hg : ∀ rows, oo ≠ .grid rows) (ho : ObjW K Γ O (upd H a o) a oo) : Sim K Γ (updO O a oo) (upd H a o) := by
  obtain ⟨hz, h1⟩ := S.o _ _ h0
  have k1 : ∀ {x : Addr} {rx : List (List PyData)}, updO O a oo x = some (.grid rx) → O x = some (.grid rx) := fun {x rx} h => by
    by_cases hx : x = a
    · subst hx; rw [zl] at h; cases h; exact absurd rfl (hg rx)
    · rw [zg hx] at h; exact h
  have nF : ∀ b o', Γ.F b = some o' → b ≠ a := fun b o' e z => by
    have := (S.fd b o' e).2.1
    rw [z, h0] at this; cases this
  refine ⟨fun b u e => ?_, fun x o' e => ?_, fun x rs e => ?_, fun b u e => ?_, fun x o' e hn' => ?_, S.fg, fun x o' e => ?_, fun x b ra rb rs ss r e1 e2 => S.u x b ra rb rs ss r (k1 e1) (k1 e2)⟩
  · rw [zj (fun z => by rw [z, hz] at e; cases e)]; exact S.z _ _ e
  · by_cases hap : x = a
    · subst hap
      rw [zl] at e
      cases e
      exact ⟨hz, ho.keep (Le.refl _) rfl rfl fun rs r h1 ⟨rows, h2⟩ => absurd h2 (hg rows)⟩
    · rw [zg hap] at e
      obtain ⟨h1, h2⟩ := S.o _ _ e
      refine ⟨h1, h2.keep (Le.refl _) (zj hap) rfl fun rs r hg' ⟨rows, hrw⟩ hr => ?_⟩
      subst hrw
      obtain ⟨_, q2, vs, q⟩ := S.rowIn e hg' hr
      have hrp : r ≠ a := fun z => by rw [z, h0] at q2; cases q2
      exact ⟨zj hrp, rfl, zg hrp⟩
  · obtain ⟨o', h⟩ := S.gd _ _ e
    by_cases hx : x = a
    · exact ⟨o, by rw [hx, zx]⟩
    · exact ⟨o', by rw [zj hx]; exact h⟩
  · rw [zj (nF _ _ e)]; exact S.f _ _ e
  · by_cases hap : x = a
    · rw [hap]; exact S.gn a o1 h0 hn
    · rw [zg hap] at e; exact S.gn x o' e hn'
  · obtain ⟨q1, q2, q3⟩ := S.fd x o' e
    exact ⟨q1, by rw [zg (nF _ _ e)]; exact q2, fun b rows rs e1 => q3 b rows rs (k1 e1)⟩
theorem Sim.drop (S : Sim K Γ O H) (a : Addr) : Sim K Γ (del O a) H := by
  have k1 : ∀ {x : Addr} {o : OO}, del O a x = some o → x ≠ a ∧ O x = some o := fun {x o} h => by
    by_cases hx : x = a
    · subst hx; rw [xv] at h; cases h
    · rw [xI hx] at h; exact ⟨hx, h⟩
  refine ⟨S.z, fun x o e => ?_, S.gd, S.f, fun x o e hn => S.gn x o (k1 e).2 hn, S.fg, fun x o e => ⟨(S.fd x o e).1, by unfold del; split; rfl; exact (S.fd x o e).2.1, fun b rows rs e1 => (S.fd x o e).2.2 b rows rs (k1 e1).2⟩, fun x b ra rb rs ss r e1 e2 => S.u x b ra rb rs ss r (k1 e1).2 (k1 e2).2⟩
  obtain ⟨hx, e⟩ := k1 e
  obtain ⟨h1, h2⟩ := S.o _ _ e
  refine ⟨h1, h2.keep (Le.refl _) rfl rfl fun rs r hg ⟨rows, hrw⟩ hr => ?_⟩
  subst hrw
  obtain ⟨_, q2, _⟩ := S.rowIn e hg hr
  refine ⟨rfl, rfl, ?_⟩
  rw [q2]
  unfold del
  split
  · rfl
  · exact q2
theorem Sim.freeze (S : Sim K Γ O H) {a : Addr} {ds : List PyData} (h : O a = some (.lst (ds.map .d))) : ∃ Γ', Le Γ Γ' ∧ Sim K Γ' (del O a) H ∧ relW K Γ' (.d (.list ds)) (.ref a) := by
  obtain ⟨hz, vs, h1, h2⟩ := S.o _ _ h
  have le : Le Γ ⟨upd Γ.Z a (.lst vs), Γ.G, Γ.F⟩ := Le.zOnly (xL hz)
  have S1 := S.drop a
  have nF : ∀ b o', Γ.F b = some o' → b ≠ a := fun b o' e z => by
    have := (S.fd b o' e).2.1
    rw [z, h] at this; cases this
  refine ⟨⟨upd Γ.Z a (.lst vs), Γ.G, Γ.F⟩, le, ⟨fun b u e => ?_, fun x o e => ?_, S.gd, S.f, S1.gn, S.fg, fun x o e => ⟨(zj (nF x o e)).trans (S1.fd x o e).1, (S1.fd x o e).2⟩, S1.u⟩, ⟨a, vs, rfl, SqL.of zx, Reps.same le.z _ _ (yy h2)⟩⟩
  · replace e : upd Γ.Z a (.lst vs) b = some u := e
    by_cases hb : b = a
    · subst hb; rw [zx] at e; cases e; exact h1
    · rw [zj hb] at e; exact S.z _ _ e
  · have hx : x ≠ a := fun z => by rw [z, xv] at e; cases e
    obtain ⟨q1, q2⟩ := S1.o _ _ e
    refine ⟨by show upd Γ.Z a _ x = none; rw [zj hx]; exact q1, q2.keep le rfl rfl fun rs r hg ⟨rows, hrw⟩ hr => ⟨rfl, ?_, rfl⟩⟩
    subst hrw
    rw [xI hx] at e
    obtain ⟨_, q2, _⟩ := S.rowIn e hg hr
    exact zj (fun z => by rw [z, h] at q2; cases q2)
theorem Sim.cell (S : Sim K Γ O H) {a r : Addr} {rows : List (List PyData)} {rs : List Addr} {i j : Nat} {ds : List PyData} {vs : List V} {x : PyData} {v : V} (h0 : O a = some (.grid rows)) (hg : Γ.G a = some rs) (hr : rs[i]? = some r) (hd : rows[i]? = some ds)
    (hv : H r = some (.lst vs)) (rx : Rep K Γ.Z x v) : Sim K Γ (updO O a (.grid (rows.set i (ds.set j x)))) (upd H r (.lst (vs.set j v))) := by
  obtain ⟨hz, rs', hg', h1, hl, hn, hrow⟩ := S.o _ _ h0
  rw [hg] at hg'
  cases hg'
  obtain ⟨z1, z2, vs', z3, z4⟩ := hrow i r ds hr hd
  rw [hv] at z3
  cases z3
  have har : a ≠ r := fun e => by rw [← e, h0] at z2; cases z2
  have nF : ∀ b o', Γ.F b = some o' → b ≠ r := fun b o' e z => (S.fd b o' e).2.2 a rows rs h0 hg (by rw [z]; exact List.mem_of_getElem? hr)
  have nFa : ∀ b o', Γ.F b = some o' → b ≠ a := fun b o' e z => by
    have := (S.fd b o' e).2.1
    rw [z, h0] at this; cases this
  have kg : ∀ {b : Addr} {rb : List (List PyData)}, updO O a (.grid (rows.set i (ds.set j x))) b = some (.grid rb) → ∃ ry, O b = some (.grid ry) := fun {b rb} e1 => by
    by_cases hx : b = a
    · exact ⟨rows, by rw [hx]; exact h0⟩
    · rw [zg hx] at e1; exact ⟨rb, e1⟩
  refine ⟨fun b u e => ?_, fun b oo e => ?_, fun b ss e => ?_, fun b u e => by rw [zj (nF _ _ e)]; exact S.f _ _ e, fun b o' e hn' => ?_, S.fg, fun b o' e => ⟨(S.fd b o' e).1, by rw [zg (nFa _ _ e)]; exact (S.fd b o' e).2.1, fun c rc ss e1 g1 => by obtain ⟨ry, e2⟩ := kg e1; exact (S.fd b o' e).2.2 c ry ss e2 g1⟩, fun b c rb rc ss tt q e1 e2 h3 h4 h5 h6 => ?_⟩
  · rw [zj (fun z => by rw [z, z1] at e; cases e)]; exact S.z _ _ e
  · by_cases hb : b = a
    · subst hb
      rw [zl] at e
      cases e
      refine ⟨hz, rs, hg, by rw [zj har]; exact h1, by rw [List.length_set]; exact hl, hn, fun k q es e1 e2 => ?_⟩
      have hq : O q = none := (S.rowIn h0 hg (List.mem_of_getElem? e1)).2.1
      have hqb : q ≠ b := fun e => by rw [e, h0] at hq; cases hq
      by_cases hk : k = i
      · subst hk
        rw [hr] at e1
        cases e1
        rw [List.getElem?_set_self (List.getElem?_eq_some_iff.mp hd).1] at e2
        cases e2
        refine ⟨z1, by rw [zg hqb]; exact z2, _, zx, ?_⟩
        have hw := yZ (Γ := Γ) z4
        have hw2 := Paired.setP hw (show relW K Γ (.d x) v from rx) (i := j)
        rw [← List.map_set] at hw2
        exact yy hw2
      · have hne : q ≠ r := fun e => by
          rw [e] at e1
          obtain ⟨l1, g1⟩ := List.getElem?_eq_some_iff.mp e1
          obtain ⟨l2, g2⟩ := List.getElem?_eq_some_iff.mp hr
          exact hk ((List.getElem_inj hn).mp (g1.trans g2.symm))
        rw [List.getElem?_set_ne (Ne.symm hk)] at e2
        obtain ⟨y1, y2, ws, y3, y4⟩ := hrow k q es e1 e2
        exact ⟨y1, by rw [zg hqb]; exact y2, ws, by rw [zj hne]; exact y3, y4⟩
    · rw [zg hb] at e
      obtain ⟨q1, q2⟩ := S.o _ _ e
      have hbr : b ≠ r := fun z => by rw [z, z2] at e; cases e
      refine ⟨q1, q2.keep (Le.refl _) (zj hbr) rfl fun ss q hgs ⟨rows', hrw⟩ hq => ?_⟩
      subst hrw
      obtain ⟨w1, w2, ws, w3⟩ := S.rowIn e hgs hq
      have hqr : q ≠ r := fun z => hb (S.u b a rows' rows ss rs q e h0 hgs hg hq (by rw [z]; exact List.mem_of_getElem? hr))
      exact ⟨zj hqr, rfl, zg (fun z => by rw [z, h0] at w2; cases w2)⟩
  · obtain ⟨o, h⟩ := S.gd _ _ e
    by_cases hb : b = r
    · exact ⟨_, by rw [hb, zx]⟩
    · exact ⟨o, by rw [zj hb]; exact h⟩
  · by_cases hb : b = a
    · subst hb; rw [zl] at e; cases e; exact absurd rfl (hn' _)
    · rw [zg hb] at e; exact S.gn b o' e hn'
  · obtain ⟨r1, f1⟩ := kg e1
    obtain ⟨r2, f2⟩ := kg e2
    exact S.u b c r1 r2 ss tt q f1 f2 h3 h4 h5 h6
theorem Sim.newGrid (S : Sim K Γ O H) {p : Addr} (hp : H p = none) : ∃ Γ', Le Γ Γ' ∧ Sim K Γ' (updO O p (.grid [])) (upd H p (.lst [])) := by
  obtain ⟨hz, hO, hG⟩ := S.free hp
  have le : Le Γ ⟨Γ.Z, fun b => if b = p then some [] else Γ.G b, Γ.F⟩ := ⟨rfl, Same.refl _, fun a rs h => ⟨[], by
    have : a ≠ p := fun e => by rw [e, hG] at h; cases h
    simp [this, h]⟩⟩
  have hF := S.f.free hp
  refine ⟨_, le, ⟨fun b u e => ?_, fun a oo e => ?_, fun a rs e => ?_, vP S.f hF, fun a o e hn => ?_, fun a o e => by have hne := yS e hF; simpa [hne] using S.fg a o e, fun a o e => ⟨(S.fd a o e).1, by rw [zg (yS e hF)]; exact (S.fd a o e).2.1, fun b rows rs e1 g1 => ?_⟩, fun a b ra rb rs ss r e1 e2 g1 g2 m1 m2 => ?_⟩⟩
  · rw [zj (fun z => by rw [z, show ({ Z := Γ.Z, G := fun b => if b = p then some [] else Γ.G b, F := Γ.F } : Gh).Z p = none from hz] at e; cases e)]; exact S.z _ _ e
  · by_cases hap : a = p
    · subst hap
      rw [zl] at e
      cases e
      exact ⟨hz, [], by simp, zx, rfl, .nil, fun i r ds h => by simp at h⟩
    · rw [zg hap] at e
      obtain ⟨h1, h2⟩ := S.o _ _ e
      refine ⟨h1, h2.keep le (zj hap) (by simp [hap]) fun rs r hg ⟨rows, hrw⟩ hr => ?_⟩
      subst hrw
      obtain ⟨_, q2, vs, q⟩ := S.rowIn e hg hr
      have hrp : r ≠ p := fun z => by rw [z, hp] at q; cases q
      exact ⟨zj hrp, rfl, zg hrp⟩
  · by_cases hap : a = p
    · exact ⟨_, by rw [hap, zx]⟩
    · obtain ⟨o, h⟩ := S.gd a rs (by simpa [hap] using e)
      exact ⟨o, by rw [zj hap]; exact h⟩
  · by_cases hap : a = p
    · subst hap; rw [zl] at e; cases e; exact absurd rfl (hn _)
    · rw [zg hap] at e
      simpa [hap] using S.gn a o e hn
  · by_cases hb : b = p
    · subst hb; simp at g1; subst g1; simp
    · rw [zg hb] at e1
      exact (S.fd a o e).2.2 b rows rs e1 (by simpa [hb] using g1)
  · by_cases ha : a = p
    · subst ha; simp at g1; subst g1; cases m1
    · by_cases hb : b = p
      · subst hb; simp at g2; subst g2; cases m2
      · rw [zg ha] at e1
        rw [zg hb] at e2
        exact S.u a b ra rb rs ss r e1 e2 (by simpa [ha] using g1) (by simpa [hb] using g2) m1 m2
theorem Sim.absorb (S : Sim K Γ O H) {a b : Addr} {rows : List (List PyData)} {rs : List Addr} {ds : List PyData} (h0 : O a = some (.grid rows)) (hg : Γ.G a = some rs) (hb : O b = some (.lst (ds.map .d))) :
    H a = some (.lst (rs.map V.ref)) ∧ rs.length = rows.length ∧ ∃ Γ', Le Γ Γ' ∧ Sim K Γ' (updO (del O b) a (.grid (rows ++ [ds]))) (upd H a (.lst (rs.map V.ref ++ [.ref b]))) := by
  obtain ⟨hz, rs', hg', h1, hl, hn, hrow⟩ := S.o _ _ h0
  rw [hg] at hg'
  cases hg'
  obtain ⟨hzb, vb, hb1, hb2⟩ := S.o _ _ hb
  have hab : a ≠ b := fun e => by rw [e, hb] at h0; cases h0
  have hbr : b ∉ rs := fun m => by
    obtain ⟨_, q, _⟩ := S.rowIn h0 hg m
    rw [hb] at q; cases q
  have le : Le Γ ⟨Γ.Z, fun x => if x = a then some (rs ++ [b]) else Γ.G x, Γ.F⟩ := ⟨rfl, Same.refl _, fun x ss h => by
    by_cases hx : x = a
    · subst hx; rw [hg] at h; cases h; exact ⟨[b], by simp⟩
    · exact ⟨[], by simp [hx, h]⟩⟩
  have nFa : ∀ c o', Γ.F c = some o' → c ≠ a := fun c o' e z => by
    have := (S.fd c o' e).2.1
    rw [z, h0] at this; cases this
  have nFb : ∀ c o', Γ.F c = some o' → c ≠ b := fun c o' e z => by
    have := (S.fd c o' e).2.1
    rw [z, hb] at this; cases this
  have k1 : ∀ {x : Addr} {rx : List (List PyData)}, updO (del O b) a (.grid (rows ++ [ds])) x = some (.grid rx) → ∃ ry, O x = some (.grid ry) := fun {x rx} h => by
    by_cases hx : x = a
    · exact ⟨rows, by rw [hx]; exact h0⟩
    · rw [zg hx] at h
      by_cases hxb : x = b
      · rw [hxb, xv] at h; cases h
      · rw [xI hxb] at h; exact ⟨rx, h⟩
  refine ⟨h1, hl, _, le, ⟨fun x u e => ?_, fun x oo e => ?_, fun x ss e => ?_, fun c u e => by rw [zj (nFa _ _ e)]; exact S.f _ _ e, fun x o' e hn' => ?_, fun c o' e => by have hne := nFa c o' e; simpa [hne] using S.fg c o' e, fun c o' e => ⟨(S.fd c o' e).1, by rw [zg (nFa _ _ e), xI (nFb _ _ e)]; exact (S.fd c o' e).2.1, fun d rd ss e1 g1 => ?_⟩, fun x y ra rb ss tt r e1 e2 g1 g2 m1 m2 => ?_⟩⟩
  · rw [zj (fun z => by rw [z, show ({ Z := Γ.Z, G := fun x => if x = a then some (rs ++ [b]) else Γ.G x, F := Γ.F } : Gh).Z a = none from hz] at e; cases e)]; exact S.z _ _ e
  · by_cases hx : x = a
    · subst hx
      rw [zl] at e
      cases e
      refine ⟨hz, rs ++ [b], by simp, by rw [zx, List.map_append]; rfl, by simp [hl], ?_, fun i r es e1 e2 => ?_⟩
      · rw [List.nodup_append]
        exact ⟨hn, by simp, fun u hu v hv => by simp at hv; subst hv; exact fun z => hbr (by rw [← z]; exact hu)⟩
      · by_cases hi : i < rs.length
        · rw [List.getElem?_append_left hi] at e1
          rw [List.getElem?_append_left (by omega)] at e2
          obtain ⟨y1, y2, ws, y3, y4⟩ := hrow i r es e1 e2
          have hrx : r ≠ x := fun z => by rw [z, h0] at y2; cases y2
          refine ⟨y1, ?_, ws, by rw [zj hrx]; exact y3, y4⟩
          rw [zg hrx]
          unfold del
          split
          · rfl
          · exact y2
        · have hi2 : i = rs.length := by
            have := (List.getElem?_eq_some_iff.mp e1).1
            simp at this; omega
          subst hi2
          rw [List.getElem?_append_right (Nat.le_refl _)] at e1
          simp at e1
          subst e1
          rw [hl, List.getElem?_append_right (Nat.le_refl _)] at e2
          simp at e2
          subst e2
          exact ⟨hzb, by rw [zg (Ne.symm hab), xv], vb, by rw [zj (Ne.symm hab)]; exact hb1, yy (Γ := Γ) hb2⟩
    · rw [zg hx] at e
      have hxb : x ≠ b := fun z => by rw [z, xv] at e; cases e
      rw [xI hxb] at e
      obtain ⟨q1, q2⟩ := S.o _ _ e
      refine ⟨q1, q2.keep le (zj hx) (by simp [hx]) fun ss r hgs ⟨rows', hrw⟩ hq => ?_⟩
      subst hrw
      obtain ⟨w1, w2, ws, w3⟩ := S.rowIn e hgs hq
      have hra : r ≠ a := fun z => by rw [z, h0] at w2; cases w2
      have hrb : r ≠ b := fun z => by rw [z, hb] at w2; cases w2
      exact ⟨zj hra, rfl, by rw [zg hra, xI hrb]⟩
  · by_cases hx : x = a
    · exact ⟨_, by rw [hx, zx]⟩
    · obtain ⟨o, h⟩ := S.gd x ss (by simpa [hx] using e)
      exact ⟨o, by rw [zj hx]; exact h⟩
  · by_cases hx : x = a
    · subst hx; rw [zl] at e; cases e; exact absurd rfl (hn' _)
    · rw [zg hx] at e
      by_cases hxb : x = b
      · rw [hxb, xv] at e; cases e
      · rw [xI hxb] at e
        simpa [hx] using S.gn x o' e hn'
  · by_cases hd : d = a
    · subst hd
      simp at g1
      subst g1
      intro m
      rcases List.mem_append.mp m with m | m
      · exact (S.fd c o' e).2.2 d rows rs h0 hg m
      · simp at m; exact nFb _ _ e m
    · obtain ⟨ry, e2⟩ := k1 e1
      exact (S.fd c o' e).2.2 d ry ss e2 (by simpa [hd] using g1)
  · obtain ⟨r1, f1⟩ := k1 e1
    obtain ⟨r2, f2⟩ := k1 e2
    have nb : ∀ {z : Addr} {rz : List (List PyData)} {sz : List Addr}, O z = some (.grid rz) → Γ.G z = some sz → b ∉ sz := fun hz1 hz2 m => by
      obtain ⟨_, q, _⟩ := S.rowIn hz1 hz2 m
      rw [hb] at q; cases q
    by_cases hx : x = a
    · by_cases hy : y = a
      · rw [hx, hy]
      · have g2' : Γ.G y = some tt := by simpa [hy] using g2
        rw [hx] at g1 ⊢
        simp at g1
        subst g1
        rcases List.mem_append.mp m1 with m | m
        · exact S.u a y rows r2 rs tt r h0 f2 hg g2' m m2
        · simp at m; subst m; exact absurd m2 (nb f2 g2')
    · have g1' : Γ.G x = some ss := by simpa [hx] using g1
      by_cases hy : y = a
      · rw [hy] at g2 ⊢
        simp at g2
        subst g2
        rcases List.mem_append.mp m2 with m | m
        · exact S.u x a r1 rows ss rs r f1 h0 g1' hg m1 m
        · simp at m; subst m; exact absurd m1 (nb f1 g1')
      · exact S.u x y r1 r2 ss tt r f1 f2 g1' (by simpa [hy] using g2) m1 m2
theorem relW.setF {F : Hp} : ∀ {w : W} {v : V}, relW K Γ w v → relW K ⟨Γ.Z, Γ.G, F⟩ w v
  | .d _, _, h => h
  | .own _, _, h => h
  | .row _ _, _, h => h
theorem relR.setF {F : Hp} {ρ : List (Option W)} {σ : St} (r : relR K Γ ρ σ) : relR K ⟨Γ.Z, Γ.G, F⟩ ρ σ := Paired.mapP r fun a b h => by
  cases a with
  | none => trivial
  | some w => cases b with
    | none => exact h
    | some v => exact relW.setF h
theorem ObjW.setF {F : Hp} {a : Addr} {oo : OO} (h : ObjW K Γ O H a oo) : ObjW K ⟨Γ.Z, Γ.G, F⟩ O H a oo := by
  cases oo with
  | lst ws => obtain ⟨vs, h1, h2⟩ := h; exact ⟨vs, h1, Paired.mapP h2 fun _ _ z => z.setF⟩
  | dK ws => obtain ⟨vs, h1, h2⟩ := h; exact ⟨vs, h1, Paired.mapP h2 fun _ _ z => ⟨z.1, z.2.setF⟩⟩
  | ins C dx ws => obtain ⟨vs, h1, h2⟩ := h; exact ⟨vs, h1, Paired.mapP h2 fun _ _ z => ⟨z.1, z.2.setF⟩⟩
  | grid rows => exact h
theorem Sim.frameNew (S : Sim K Γ O H) {p : Addr} (hp : H p = none) (o : HO) : Sim K ⟨Γ.Z, Γ.G, upd Γ.F p o⟩ O (upd H p o) := by
  obtain ⟨hz, hO, hG⟩ := S.free hp
  have key : ∀ a o', upd Γ.F p o a = some o' → a = p ∨ (a ≠ p ∧ Γ.F a = some o') := fun a o' e => by
    by_cases ha : a = p
    · exact .inl ha
    · rw [zj ha] at e; exact .inr ⟨ha, e⟩
  refine ⟨fun b u e => ?_, fun a oo e => ?_, fun a rs e => ?_, fun b u e => ?_, S.gn, fun a o' e => ?_, fun a o' e => ?_, S.u⟩
  · rw [zj (fun z => by rw [z, show ({ Z := Γ.Z, G := Γ.G, F := upd Γ.F p o } : Gh).Z p = none from hz] at e; cases e)]; exact S.z _ _ e
  · have hap : a ≠ p := fun z => by rw [z, hO] at e; cases e
    obtain ⟨h1, h2⟩ := S.o _ _ e
    refine ⟨h1, (h2.keep (Le.refl _) (zj hap) rfl fun rs r hg ⟨rows, hrw⟩ hr => ?_).setF⟩
    subst hrw
    obtain ⟨_, _, vs, q⟩ := S.rowIn e hg hr
    exact ⟨zj (fun z => by rw [z, hp] at q; cases q), rfl, rfl⟩
  · obtain ⟨o', h⟩ := S.gd _ _ e
    exact ⟨o', by rw [zj (yS h hp)]; exact h⟩
  · replace e : upd Γ.F p o b = some u := e
    rcases key b u e with rfl | ⟨hb, e'⟩
    · rw [zx] at e ⊢; exact e
    · rw [zj hb]; exact S.f _ _ e'
  · rcases key a o' e with rfl | ⟨hb, e'⟩
    · exact hG
    · exact S.fg _ _ e'
  · rcases key a o' e with rfl | ⟨hb, e'⟩
    · refine ⟨hz, hO, fun b rows rs e1 g1 m => ?_⟩
      obtain ⟨_, _, vs, q⟩ := S.rowIn e1 g1 m
      rw [hp] at q; cases q
    · exact S.fd _ _ e'
theorem Sim.framePut (S : Sim K Γ O H) {a : Addr} {o1 : HO} (h : Γ.F a = some o1) (o : HO) : Sim K ⟨Γ.Z, Γ.G, upd Γ.F a o⟩ O (upd H a o) := by
  obtain ⟨hz, hO, hr⟩ := S.fd _ _ h
  have hG := S.fg _ _ h
  have key : ∀ b o', upd Γ.F a o b = some o' → b = a ∨ (b ≠ a ∧ Γ.F b = some o') := fun b o' e => by
    by_cases ha : b = a
    · exact .inl ha
    · rw [zj ha] at e; exact .inr ⟨ha, e⟩
  refine ⟨fun b u e => ?_, fun b oo e => ?_, fun b rs e => ?_, fun b u e => ?_, S.gn, fun b o' e => ?_, fun b o' e => ?_, S.u⟩
  · rw [zj (fun z => by rw [z, show ({ Z := Γ.Z, G := Γ.G, F := upd Γ.F a o } : Gh).Z a = none from hz] at e; cases e)]; exact S.z _ _ e
  · have hap : b ≠ a := fun z => by rw [z, hO] at e; cases e
    obtain ⟨h1, h2⟩ := S.o _ _ e
    refine ⟨h1, (h2.keep (Le.refl _) (zj hap) rfl fun rs r hg ⟨rows, hrw⟩ hm => ?_).setF⟩
    subst hrw
    exact ⟨zj (fun z => hr b rows rs e hg (by rw [← z]; exact hm)), rfl, rfl⟩
  · obtain ⟨o', h⟩ := S.gd _ _ e
    by_cases hb : b = a
    · exact ⟨o, by rw [hb, zx]⟩
    · exact ⟨o', by rw [zj hb]; exact h⟩
  · replace e : upd Γ.F a o b = some u := e
    rcases key b u e with rfl | ⟨hb, e'⟩
    · rw [zx] at e ⊢; exact e
    · rw [zj hb]; exact S.f _ _ e'
  · rcases key b o' e with rfl | ⟨hb, e'⟩
    · exact hG
    · exact S.fg _ _ e'
  · rcases key b o' e with rfl | ⟨hb, e'⟩
    · exact ⟨hz, hO, hr⟩
    · exact S.fd _ _ e'
theorem Sim.frameOwn (S : Sim K Γ O H) {a : Addr} {ws : List W} (h : O a = some (.lst ws)) : ∃ vs, H a = some (.lst vs) ∧ relWs K Γ ws vs ∧ Sim K ⟨Γ.Z, Γ.G, upd Γ.F a (.lst vs)⟩ (del O a) H := by
  obtain ⟨hz, vs, h1, h2⟩ := S.o _ _ h
  have hG := S.gn _ _ h (by intro _ z; cases z)
  have S1 := S.drop a
  have key : ∀ b o', upd Γ.F a (.lst vs) b = some o' → b = a ∨ (b ≠ a ∧ Γ.F b = some o') := fun b o' e => by
    by_cases ha : b = a
    · exact .inl ha
    · rw [zj ha] at e; exact .inr ⟨ha, e⟩
  refine ⟨vs, h1, h2, ⟨S.z, fun b oo e => ⟨(S1.o b oo e).1, (S1.o b oo e).2.setF⟩, S.gd, fun b u e => ?_, S1.gn, fun b o' e => ?_, fun b o' e => ?_, S1.u⟩⟩
  · replace e : upd Γ.F a (.lst vs) b = some u := e
    rcases key b u e with rfl | ⟨hb, e'⟩
    · rw [zx] at e; cases e; exact h1
    · exact S.f _ _ e'
  · rcases key b o' e with rfl | ⟨hb, e'⟩
    · exact hG
    · exact S.fg _ _ e'
  · rcases key b o' e with rfl | ⟨hb, e'⟩
    · refine ⟨hz, xv, fun c rows rs e1 g1 m => ?_⟩
      obtain ⟨_, q, _⟩ := S1.rowIn e1 g1 m
      have hc : c ≠ b := fun z => by rw [z, xv] at e1; cases e1
      rw [xI hc] at e1
      have := (S.rowIn e1 g1 m).2.1
      rw [h] at this; cases this
    · exact S1.fd _ _ e'
theorem Sim.unframe (S : Sim K Γ O H) {a : Addr} {ds : List PyData} {vs : List V} {F : Hp} (hF : Γ.F = upd F a (.lst vs)) (h0 : F a = none) (hr : Reps K Γ.Z ds vs) :
    Same Γ.Z (upd Γ.Z a (.lst vs)) ∧ Sim K ⟨upd Γ.Z a (.lst vs), Γ.G, F⟩ O H ∧ relW K ⟨upd Γ.Z a (.lst vs), Γ.G, F⟩ (.d (.list ds)) (.ref a) := by
  have hFa : Γ.F a = some (.lst vs) := by rw [hF, zx]
  obtain ⟨hz, hO, hrow⟩ := S.fd _ _ hFa
  have le : Le Γ ⟨upd Γ.Z a (.lst vs), Γ.G, Γ.F⟩ := Le.zOnly (xL hz)
  have kF : ∀ b o, F b = some o → b ≠ a ∧ Γ.F b = some o := fun b o e => by
    have hb : b ≠ a := fun z => by rw [z, h0] at e; cases e
    exact ⟨hb, by rw [hF, zj hb]; exact e⟩
  refine ⟨xL hz, ⟨fun b u e => ?_, fun b oo e => ?_, S.gd, fun b u e => S.f _ _ (kF b u e).2, S.gn, fun b o e => S.fg b o (kF b o e).2, fun b o e => ⟨(zj (kF b o e).1).trans (S.fd b o (kF b o e).2).1, (S.fd b o (kF b o e).2).2⟩, S.u⟩, ⟨a, vs, rfl, SqL.of zx, Reps.same (xL hz) _ _ hr⟩⟩
  · replace e : upd Γ.Z a (.lst vs) b = some u := e
    by_cases hb : b = a
    · subst hb; rw [zx] at e; cases e; exact S.f _ _ hFa
    · rw [zj hb] at e; exact S.z _ _ e
  · obtain ⟨q1, q2⟩ := S.o _ _ e
    have hb : b ≠ a := fun z => by rw [z, hO] at e; cases e
    refine ⟨(zj hb).trans q1, (q2.keep le rfl rfl fun rs r hg ⟨rows, hrw⟩ hm => ⟨rfl, ?_, rfl⟩).setF⟩
    subst hrw
    exact zj (fun z => hrow b rows rs e hg (by rw [← z]; exact hm))
theorem Sim.gridify (S : Sim K Γ O H) {a : Addr} {rs : List Addr} {rows : List (List PyData)} {F : Hp} (h0 : F a = none) (hFa : Γ.F a = some (.lst (rs.map V.ref))) (hn : rs.Nodup) (har : a ∉ rs) (hl : rs.length = rows.length)
    (hrow : ∀ (i : Nat) (r : Addr) (ds : List PyData), rs[i]? = some r → rows[i]? = some ds → F r = none ∧ ∃ vs, Γ.F r = some (.lst vs) ∧ Reps K Γ.Z ds vs) (hF : ∀ x, x ≠ a → x ∉ rs → Γ.F x = F x) :
    O a = none ∧ ∃ G', (∀ b ss, Γ.G b = some ss → G' b = some ss) ∧ Sim K ⟨Γ.Z, G', F⟩ (updO O a (.grid rows)) H := by
  obtain ⟨hz, hO, _⟩ := S.fd _ _ hFa
  have hG := S.fg _ _ hFa
  have hmem : ∀ r ∈ rs, F r = none ∧ ∃ vs, Γ.F r = some (.lst vs) := fun r hr => by
    obtain ⟨i, hi, rfl⟩ := List.mem_iff_getElem.mp hr
    obtain ⟨q1, vs, q2, _⟩ := hrow i rs[i] (rows[i]'(by omega)) (List.getElem?_eq_getElem hi) (List.getElem?_eq_getElem (by omega))
    exact ⟨q1, vs, q2⟩
  have kF : ∀ b o, F b = some o → b ≠ a ∧ b ∉ rs ∧ Γ.F b = some o := fun b o e => by
    have hb : b ≠ a := fun z => by rw [z, h0] at e; cases e
    have hb2 : b ∉ rs := fun m => by rw [(hmem b m).1] at e; cases e
    exact ⟨hb, hb2, by rw [hF b hb hb2]; exact e⟩
  have le : Le Γ ⟨Γ.Z, fun b => if b = a then some rs else Γ.G b, Γ.F⟩ := ⟨rfl, Same.refl _, fun b ss h => ⟨[], by
    have : b ≠ a := fun e => by rw [e, hG] at h; cases h
    simp [this, h]⟩⟩
  refine ⟨hO, fun b => if b = a then some rs else Γ.G b, fun b ss h => by
    have : b ≠ a := fun e => by rw [e, hG] at h; cases h
    simp [this, h], ⟨S.z, fun b oo e => ?_, fun b ss e => ?_, fun b u e => S.f _ _ (kF b u e).2.2, fun b oo e hne => ?_, fun b o e => ?_, fun b o e => ?_, fun b c rb rc ss tt r e1 e2 g1 g2 m1 m2 => ?_⟩⟩
  · by_cases hb : b = a
    · subst hb
      rw [zl] at e
      cases e
      refine ⟨hz, rs, by simp, S.f _ _ hFa, hl, hn, fun i r ds q1 q2 => ?_⟩
      obtain ⟨_, vs, q3, q4⟩ := hrow i r ds q1 q2
      obtain ⟨y1, y2, _⟩ := S.fd _ _ q3
      refine ⟨y1, ?_, vs, S.f _ _ q3, q4⟩
      rw [zg (fun z => har (by rw [← z]; exact List.mem_of_getElem? q1))]
      exact y2
    · rw [zg hb] at e
      obtain ⟨q1, q2⟩ := S.o _ _ e
      refine ⟨q1, (q2.keep le rfl (by simp [hb]) fun ss r hg ⟨rows', hrw⟩ hm => ⟨rfl, rfl, ?_⟩).setF⟩
      subst hrw
      obtain ⟨_, q, _⟩ := S.rowIn e hg hm
      exact zg (fun z => (S.fd _ _ hFa).2.2 b rows' ss e hg (by rw [← z]; exact hm))
  · by_cases hb : b = a
    · rw [hb]; exact ⟨_, S.f _ _ hFa⟩
    · exact S.gd b ss (by simpa [hb] using e)
  · by_cases hb : b = a
    · subst hb; rw [zl] at e; cases e; exact absurd rfl (hne _)
    · rw [zg hb] at e
      simpa [hb] using S.gn b oo e hne
  · have := (kF b o e).1
    simpa [this] using S.fg b o (kF b o e).2.2
  · obtain ⟨k1, k2, k3⟩ := kF b o e
    obtain ⟨y1, y2, y3⟩ := S.fd _ _ k3
    refine ⟨y1, by rw [zg k1]; exact y2, fun c rows' ss e1 g1 => ?_⟩
    by_cases hc : c = a
    · subst hc; simp at g1; subst g1; exact k2
    · rw [zg hc] at e1
      exact y3 c rows' ss e1 (by simpa [hc] using g1)
  · by_cases hb : b = a
    · by_cases hc : c = a
      · rw [hb, hc]
      · subst hb
        simp at g1
        subst g1
        rw [zg hc] at e2
        obtain ⟨_, vs, q⟩ := hmem r m1
        exact absurd m2 ((S.fd _ _ q).2.2 c rc tt e2 (by simpa [hc] using g2))
    · rw [zg hb] at e1
      by_cases hc : c = a
      · subst hc
        simp at g2
        subst g2
        obtain ⟨_, vs, q⟩ := hmem r m2
        exact absurd m1 ((S.fd _ _ q).2.2 b rb ss e1 (by simpa [hb] using g1))
      · rw [zg hc] at e2
        exact S.u b c rb rc ss tt r e1 e2 (by simpa [hb] using g1) (by simpa [hc] using g2) m1 m2
end
end L2
namespace L2
open PySem PySem.Spec PyProof.Rows
noncomputable abbrev WS := List (Option W)
noncomputable abbrev WK := W → OM → Prop
noncomputable abbrev TEW := WS → OM → WK → Prop
noncomputable abbrev TTW := WS → OM → (Bool → OM → Prop) → Prop
noncomputable abbrev TAW := WS → OM → (List W → OM → Prop) → Prop
structure EndsW where
  nx : WS → OM → Prop
  rt : WK
  bk : WS → OM → Prop := fun _ _ => False
  ct : WS → OM → Prop := fun _ _ => False
noncomputable abbrev TSW := EndsW → WS → OM → Prop
noncomputable abbrev TGW := W → WS → OM → (WS → OM → Prop) → Prop
noncomputable abbrev TGsW := List PyData → WS → OM → (WS → OM → Prop) → Prop
noncomputable abbrev R2W := W → W → OM → WK → Prop
section
variable (K : PySem.W.Frag)
noncomputable def RefE (t : TE) (T : TEW) : Prop := ∀ Γ O H ρ σ, Sim K Γ O H → relR K Γ ρ σ → ∀ (Q : VK) (R : WK), T ρ O R → (∀ Γ' O' H' w v, Le Γ Γ' → Sim K Γ' O' H' → relW K Γ' w v → R w O' → Q v H') → t σ H Q
noncomputable def xP (t : TT) (T : TTW) : Prop := ∀ Γ O H ρ σ, Sim K Γ O H → relR K Γ ρ σ → ∀ (Q : Bool → Hp → Prop) (R : Bool → OM → Prop), T ρ O R → (∀ Γ' O' H' b, Le Γ Γ' → Sim K Γ' O' H' → R b O' → Q b H') → t σ H Q
noncomputable def xF (t : TA) (T : TAW) : Prop := ∀ Γ O H ρ σ, Sim K Γ O H → relR K Γ ρ σ → ∀ (Q : List V → Hp → Prop) (R : List W → OM → Prop), T ρ O R → (∀ Γ' O' H' ws vs, Le Γ Γ' → Sim K Γ' O' H' → relWs K Γ' ws vs → R ws O' → Q vs H') → t σ H Q
structure EndsR (Γ : Gh) (D : Ends) (DW : EndsW) : Prop where
  nx : ∀ Γ' O' H' ρ' σ', Le Γ Γ' → Sim K Γ' O' H' → relR K Γ' ρ' σ' → DW.nx ρ' O' → D.nx σ' H'
  rt : ∀ Γ' O' H' w v, Le Γ Γ' → Sim K Γ' O' H' → relW K Γ' w v → DW.rt w O' → D.rt v H'
  bk : ∀ Γ' O' H' ρ' σ', Le Γ Γ' → Sim K Γ' O' H' → relR K Γ' ρ' σ' → DW.bk ρ' O' → D.bk σ' H'
  ct : ∀ Γ' O' H' ρ' σ', Le Γ Γ' → Sim K Γ' O' H' → relR K Γ' ρ' σ' → DW.ct ρ' O' → D.ct σ' H'
noncomputable def RefS (t : TS) (T : TSW) : Prop := ∀ Γ O H ρ σ D DW, Sim K Γ O H → relR K Γ ρ σ → T DW ρ O → EndsR K Γ D DW → t D σ H
noncomputable def RefG (t : TG) (T : TGW) : Prop := ∀ Γ O H ρ σ w v, Sim K Γ O H → relR K Γ ρ σ → relW K Γ w v → ∀ (Q : St → Hp → Prop) (R : WS → OM → Prop), T w ρ O R → (∀ Γ' O' H' ρ' σ', Le Γ Γ' → Sim K Γ' O' H' → relR K Γ' ρ' σ' → R ρ' O' → Q σ' H') → t v σ H Q
noncomputable def RefGs (t : TGs) (T : TGsW) : Prop := ∀ Γ O H ρ σ ds vs, Sim K Γ O H → relR K Γ ρ σ → Reps K Γ.Z ds vs → ∀ (Q : St → Hp → Prop) (R : WS → OM → Prop), T ds ρ O R → (∀ Γ' O' H' ρ' σ', Le Γ Γ' → Sim K Γ' O' H' → relR K Γ' ρ' σ' → R ρ' O' → Q σ' H') → t vs σ H Q
noncomputable def RefR (r : R2) (rw : R2W) : Prop := ∀ Γ O H x y v u, Sim K Γ O H → relW K Γ x v → relW K Γ y u → ∀ (Q : VK) (R : WK), rw x y O R → (∀ Γ' O' H' w v, Le Γ Γ' → Sim K Γ' O' H' → relW K Γ' w v → R w O' → Q v H') → r v u H Q
noncomputable def RefU (r : V → Hp → VK → Prop) (rw : W → OM → WK → Prop) : Prop := ∀ Γ O H x v, Sim K Γ O H → relW K Γ x v → ∀ (Q : VK) (R : WK), rw x O R → (∀ Γ' O' H' w v, Le Γ Γ' → Sim K Γ' O' H' → relW K Γ' w v → R w O' → Q v H') → r v H Q
noncomputable def RefC (r : List V → Hp → VK → Prop) (rw : List W → OM → WK → Prop) : Prop := ∀ Γ O H xs vs, Sim K Γ O H → relWs K Γ xs vs → ∀ (Q : VK) (R : WK), rw xs O R → (∀ Γ' O' H' w v, Le Γ Γ' → Sim K Γ' O' H' → relW K Γ' w v → R w O' → Q v H') → r vs H Q
noncomputable def RefM (ty : String) (r : V → List V → Hp → VK → Prop) (rw : W → List W → OM → WK → Prop) : Prop := ∀ Γ O H x v xs vs, Sim K Γ O H → relW K Γ x v → relWs K Γ xs vs → ∀ (Q : VK) (R : WK), rw x xs O R → (∀ Γ' O' H' w v, Le Γ Γ' → Sim K Γ' O' H' → relW K Γ' w v → R w O' → Q v H') → r v vs H Q
end
section
variable {K : PySem.W.Frag}
theorem EndsR.mono {Γ Γ' : Gh} {D : Ends} {DW : EndsW} (h : EndsR K Γ D DW) (l : Le Γ Γ') : EndsR K Γ' D DW :=
  ⟨fun _ _ _ _ _ l2 => h.nx _ _ _ _ _ (l.trans l2), fun _ _ _ _ _ l2 => h.rt _ _ _ _ _ (l.trans l2), fun _ _ _ _ _ l2 => h.bk _ _ _ _ _ (l.trans l2), fun _ _ _ _ _ l2 => h.ct _ _ _ _ _ (l.trans l2)⟩
noncomputable def ofV : V → W
  | .int i => .d (.int i)
  | .bl b => .d (.bool b)
  | .str x => .d (.str x)
  | _ => .d .none
noncomputable def scV : V → Bool
  | .int _ => true
  | .bl _ => true
  | .str _ => true
  | .non => true
  | _ => false
theorem j8 {Γ : Gh} {v : V} (h : scV v = true) : relW K Γ (ofV v) v := by
  cases v <;> first | rfl | simp [scV] at h
noncomputable def vOf : PyData → V
  | .int i => .int i
  | .bool b => .bl b
  | .str x => .str x
  | .none => .non
  | _ => .ty ""
noncomputable def scD : PyData → Bool
  | .int _ => true
  | .bool _ => true
  | .str _ => true
  | .none => true
  | _ => false
theorem Zk {Z : Hp} {x : PyData} {v : V} (h : Rep K Z x v) (s : scD x = true) : v = vOf x := by
  cases x <;> first | exact h | simp [scD] at s
theorem ue {Γ : Gh} {b : Bool} : relW K Γ (.d (.bool b)) (.bl b) := rfl
theorem VZ {Γ : Gh} {b : Str} : relW K Γ (.d (.str b)) (.str b) := rfl
theorem vQ {Γ : Gh} {b : Int} : relW K Γ (.d (.int b)) (.int b) := rfl
theorem xG {Γ : Gh} {a : Addr} : relW K Γ (.own a) (.ref a) := rfl
theorem zdG {Γ : Gh} {x : PyData} {v : V} (h : Rep K Γ.Z x v) : relW K Γ (.d x) v := h
theorem uu {Γ : Gh} : relW K Γ (.d .none) .non := rfl
noncomputable def zef (i : Nat) : TEW := fun ρ O R => ∃ w, ρ[i]? = some (some w) ∧ R w O
noncomputable def wC (x : PyData) : TEW := fun _ O R => R (.d x) O
theorem zbk {i : Nat} : RefE K (Ud i) (zef i) := by
  rintro Γ O H ρ σ S r Q R ⟨w, e, h⟩ k
  obtain ⟨v, e', hv⟩ := r.get e
  exact ⟨v, e', k _ _ _ _ _ (Le.refl _) S hv h⟩
theorem YO {v : V} {x : PyData} (h : vOf x = v := by rfl) (hs : scD x = true := by rfl) : RefE K (tC v) (wC x) := by
  rintro Γ O H ρ σ S r Q R hR k
  subst h
  refine k _ _ _ _ _ (Le.refl _) S ?_ hR
  cases x <;> first | rfl | simp [scD] at hs
theorem zbl {i : Int} : RefE K (tC (.int i)) (wC (.int i)) := YO
theorem zbm {i : Str} : RefE K (tC (.str i)) (wC (.str i)) := YO
theorem zcx {i : Bool} : RefE K (tC (.bl i)) (wC (.bool i)) := YO
theorem zbn : RefE K (tC .non) (wC .none) := YO
noncomputable def wOp (r : R2W) (Ta Tb : TEW) : TEW := fun ρ O R => Ta ρ O fun x O1 => Tb ρ O1 fun y O2 => r x y O2 R
theorem zcy {r : R2} {rw : R2W} {ta tb : TE} {Ta Tb : TEW} (hr : RefR K r rw) (ha : RefE K ta Ta) (hb : RefE K tb Tb) : RefE K (tOp r ta tb) (wOp rw Ta Tb) := by
  intro Γ O H ρ σ S r0 Q R h k
  refine ha Γ O H ρ σ S r0 _ _ h fun Γ1 O1 H1 x v l1 S1 rx h1 => ?_
  refine hb Γ1 O1 H1 ρ σ S1 (r0.mono l1) _ _ h1 fun Γ2 O2 H2 y u l2 S2 ry h2 => ?_
  exact hr Γ2 O2 H2 x y v u S2 (rx.mono l2) ry _ _ h2 fun Γ3 O3 H3 w z l3 S3 rz h3 => k Γ3 O3 H3 w z ((l1.trans l2).trans l3) S3 rz h3
noncomputable def wUn (r : W → OM → WK → Prop) (Ta : TEW) : TEW := fun ρ O R => Ta ρ O fun x O1 => r x O1 R
theorem zcz {r : V → Hp → VK → Prop} {rw : W → OM → WK → Prop} {ta : TE} {Ta : TEW} (hr : RefU K r rw) (ha : RefE K ta Ta) : RefE K (tUn r ta) (wUn rw Ta) := by
  intro Γ O H ρ σ S r0 Q R h k
  refine ha Γ O H ρ σ S r0 _ _ h fun Γ1 O1 H1 x v l1 S1 rx h1 => ?_
  exact hr Γ1 O1 H1 x v S1 rx _ _ h1 fun Γ3 O3 H3 w z l3 S3 rz h3 => k Γ3 O3 H3 w z (l1.trans l3) S3 rz h3
noncomputable def wI0 (g : Int → Int → V) : R2W := fun x y O R => ∃ i j, x = .d (.int i) ∧ y = .d (.int j) ∧ R (ofV (g i j)) O
noncomputable def wI (C : Int → Int → Prop) (g : Int → Int → V) : R2W := fun x y O R => ∃ i j, x = .d (.int i) ∧ y = .d (.int j) ∧ C i j ∧ R (ofV (g i j)) O
theorem zeg {g : Int → Int → V} (hg : ∀ i j, scV (g i j) = true := by intro _ _; rfl) : RefR K (rI0 g) (wI0 g) := by
  rintro Γ O H x y v u S rx ry Q R ⟨i, j, rfl, rfl, h⟩ k
  exact ⟨i, j, rx, ry, k _ _ _ _ _ (Le.refl _) S (j8 (hg i j)) h⟩
theorem r_I {C : Int → Int → Prop} {g : Int → Int → V} (hg : ∀ i j, scV (g i j) = true := by intro _ _; rfl) : RefR K (rI C g) (wI C g) := by
  rintro Γ O H x y v u S rx ry Q R ⟨i, j, rfl, rfl, c, h⟩ k
  exact ⟨i, j, rx, ry, c, k _ _ _ _ _ (Le.refl _) S (j8 (hg i j)) h⟩
noncomputable def wU (g : Int → V) : W → OM → WK → Prop := fun x O R => ∃ i, x = .d (.int i) ∧ R (ofV (g i)) O
theorem r_U {g : Int → V} (hg : ∀ i, scV (g i) = true := by intro _; rfl) : RefU K (rU g) (wU g) := by
  rintro Γ O H x v S rx Q R ⟨i, rfl, h⟩ k
  exact ⟨i, rx, k _ _ _ _ _ (Le.refl _) S (j8 (hg i)) h⟩
noncomputable def wEq : R2W := fun x y O R => ∃ a b, x = .d a ∧ y = .d b ∧ scD a = true ∧ scD b = true ∧ Y9 (vOf a) (vOf b) = true ∧ R (.d (.bool (decide (vOf a = vOf b)))) O
theorem zeh : RefR K rEq wEq := by
  rintro Γ O H x y v u S rx ry Q R ⟨a, b, rfl, rfl, sa, sb, sc, h⟩ k
  rw [Zk rx sa, Zk ry sb]
  exact ⟨sc, k _ _ _ _ _ (Le.refl _) S ue h⟩
noncomputable def zcA : R2W := fun x y O R => ∃ a b, vy O x = some a ∧ vy O y = some b ∧ SeqAt.shaped a = true ∧ SeqAt.shaped b = true ∧ R (.d (.bool (PyData.eqv a b))) O
noncomputable def zcB : R2W := fun x y O R => ∃ a b, vy O x = some a ∧ vy O y = some b ∧ SeqAt.shaped a = true ∧ SeqAt.shaped b = true ∧ R (.d (.bool (!PyData.eqv a b))) O
theorem zdH : RefR K (JZ K) zcA := by
  rintro Γ O H x y v u S rx ry Q R ⟨a, b, e1, e2, s1, s2, h⟩ k
  exact ⟨a, b, qE S rx e1, qE S ry e2, s1, s2, k _ _ _ _ _ (Le.refl _) S ue h⟩
theorem zdI : RefR K (J0 K) zcB := by
  rintro Γ O H x y v u S rx ry Q R ⟨a, b, e1, e2, s1, s2, h⟩ k
  exact ⟨a, b, qE S rx e1, qE S ry e2, s1, s2, k _ _ _ _ _ (Le.refl _) S ue h⟩
noncomputable def x9 : W → Bool
  | .d .none => true
  | _ => false
theorem Xp {Γ : Gh} {w : W} {v : V} (r : relW K Γ w v) : decide (v = .non) = x9 w := by
  cases w with
  | d x =>
    cases x with
    | none => rw [show v = .non from r]; rfl
    | list ds => obtain ⟨a, _, rfl, _⟩ := r; rfl
    | tuple ds => obtain ⟨a, _, rfl, _⟩ := r; rfl
    | dict _ => obtain ⟨_, a, rfl, _⟩ := r; rfl
    | int i => rw [show v = .int i from r]; rfl
    | bool i => rw [show v = .bl i from r]; rfl
    | str i => rw [show v = .str i from r]; rfl
  | own a => rw [show v = .ref a from r]; rfl
  | row a i => obtain ⟨rs, r0, _, _, rfl⟩ := r; rfl
noncomputable def zei : R2W := fun x y O R => y = .d .none ∧ R (.d (.bool (x9 x))) O
noncomputable def zdJ : R2W := fun x y O R => y = .d .none ∧ R (.d (.bool (!x9 x))) O
theorem zdK : RefR K (fun x y H Q => y = .non ∧ Q (.bl (decide (x = .non))) H) zei := by
  rintro Γ O H x y v u S rx ry Q R ⟨rfl, h⟩ k
  refine ⟨ry, k _ _ _ _ _ (Le.refl _) S ?_ h⟩
  rw [Xp rx]; rfl
theorem zcC : RefR K (fun x y H Q => y = .non ∧ Q (.bl (!decide (x = .non))) H) zdJ := by
  rintro Γ O H x y v u S rx ry Q R ⟨rfl, h⟩ k
  refine ⟨ry, k _ _ _ _ _ (Le.refl _) S ?_ h⟩
  rw [Xp rx]; rfl
noncomputable def Xq (b : Bool) : W → Bool
  | .d (.bool c) => decide (c = b)
  | _ => false
theorem V0 {Γ : Gh} {w : W} {v : V} {b : Bool} (r : relW K Γ w v) : decide (v = .bl b) = Xq b w := by
  cases w with
  | d x =>
    cases x with
    | none => rw [show v = .non from r]; rfl
    | list ds => obtain ⟨a, _, rfl, _⟩ := r; rfl
    | tuple ds => obtain ⟨a, _, rfl, _⟩ := r; rfl
    | dict _ => obtain ⟨_, a, rfl, _⟩ := r; rfl
    | int i => rw [show v = .int i from r]; rfl
    | bool i => rw [show v = .bl i from r]; simp [Xq]
    | str i => rw [show v = .str i from r]; rfl
  | own a => rw [show v = .ref a from r]; rfl
  | row a i => obtain ⟨rs, r0, _, _, rfl⟩ := r; rfl
noncomputable def zcD : R2W := fun x y O R => ∃ b, y = .d (.bool b) ∧ R (.d (.bool (Xq b x))) O
noncomputable def zan : R2W := fun x y O R => ∃ b, y = .d (.bool b) ∧ R (.d (.bool (!Xq b x))) O
theorem zdL : RefR K (fun x y H Q => ∃ b, y = .bl b ∧ Q (.bl (decide (x = .bl b))) H) zcD := by
  rintro Γ O H x y v u S rx ry Q R ⟨b, rfl, h⟩ k
  refine ⟨b, ry, k _ _ _ _ _ (Le.refl _) S ?_ h⟩
  rw [V0 rx]; rfl
theorem zcE : RefR K (fun x y H Q => ∃ b, y = .bl b ∧ Q (.bl (!decide (x = .bl b))) H) zan := by
  rintro Γ O H x y v u S rx ry Q R ⟨b, rfl, h⟩ k
  refine ⟨b, ry, k _ _ _ _ _ (Le.refl _) S ?_ h⟩
  rw [V0 rx]; rfl
noncomputable def zej : R2W := fun x y O R => ∃ ws i w, y = .d (.int i) ∧ yR O x = some ws ∧ atI ws i = some w ∧ R w O
noncomputable def zcF : R2W := fun x y O R => ∃ ds i e, y = .d (.int i) ∧ xA x = some ds ∧ atI ds i = some e ∧ R (.d e) O
noncomputable def zcG : R2W := fun x y O R => ∃ z i c, x = .d (.str z) ∧ y = .d (.int i) ∧ z.length ≤ sizeLine ∧ atI z.cps.toList i = some c ∧ R (.d (.str ⟨#[c]⟩)) O
theorem Zl {α β : Type} {F : α → β → Prop} {xs : List α} {ys : List β} {i : Int} {x : α} (r : Paired F xs ys) (e : atI xs i = some x) : ∃ y, atI ys i = some y ∧ F x y := by
  unfold atI at e ⊢
  rw [← Paired.length r]
  cases h : ixN xs.length i with
  | none => rw [h] at e; cases e
  | some j =>
    rw [h] at e
    exact Paired.getP r e
theorem zdM : RefR K (UB K) zej := by
  rintro Γ O H x y v u S rx ry Q R ⟨ws, i, w, rfl, e, h1, h⟩ k
  obtain ⟨a, vs, rfl, q1, q2⟩ := xy S rx e
  obtain ⟨z, h2, h3⟩ := Zl q2 h1
  exact ⟨a, vs, i, z, rfl, ry, q1, h2, k _ _ _ _ _ (Le.refl _) S h3 h⟩
theorem zdN : RefR K (JV K) zcF := by
  rintro Γ O H x y v u S rx ry Q R ⟨ds, i, w, rfl, e, h1, h⟩ k
  obtain ⟨a, vs, rfl, q1, q2⟩ := vm S rx e
  have h1' : atI (ds.map W.d) i = some (.d w) := by
    unfold atI at h1 ⊢
    rw [List.length_map]
    cases hj : ixN ds.length i with
    | none => rw [hj] at h1; cases h1
    | some j =>
      rw [hj] at h1
      replace h1 : ds[j]? = some w := h1
      show (ds.map W.d)[j]? = some (.d w)
      rw [List.getElem?_map, h1]; rfl
  obtain ⟨z, h2, h3⟩ := Zl q2 h1'
  exact ⟨a, vs, i, z, rfl, ry, q1, h2, k _ _ _ _ _ (Le.refl _) S h3 h⟩
theorem zdO : RefR K zcl zcG := by
  rintro Γ O H x y v u S rx ry Q R ⟨z, i, c, rfl, rfl, hl, h1, h⟩ k
  exact ⟨z, i, c, rx, ry, hl, h1, k _ _ _ _ _ (Le.refl _) S VZ h⟩
noncomputable def J9 (T U : TTW) : TTW := fun ρ O R => T ρ O fun c O1 => if c = true then U ρ O1 R else R false O1
noncomputable def wOr (T U : TTW) : TTW := fun ρ O R => T ρ O fun c O1 => if c = true then R true O1 else U ρ O1 R
noncomputable def UL (T : TTW) : TTW := fun ρ O R => T ρ O fun c O1 => R (!c) O1
theorem zbo {t u : TT} {T U : TTW} (h : xP K t T) (g : xP K u U) : xP K (zb5 t u) (J9 T U) := by
  intro Γ O H ρ σ S r0 Q R hT k
  refine h Γ O H ρ σ S r0 _ _ hT fun Γ1 O1 H1 b l1 S1 h1 => ?_
  cases b with
  | true => rw [if_pos rfl] at h1 ⊢; exact g _ _ _ _ _ S1 (r0.mono l1) _ _ h1 fun Γ2 O2 H2 c l2 S2 h2 => k _ _ _ _ (l1.trans l2) S2 h2
  | false => rw [if_neg (by decide)] at h1 ⊢; exact k _ _ _ _ l1 S1 h1
theorem zcH {t u : TT} {T U : TTW} (h : xP K t T) (g : xP K u U) : xP K (tOr t u) (wOr T U) := by
  intro Γ O H ρ σ S r0 Q R hT k
  refine h Γ O H ρ σ S r0 _ _ hT fun Γ1 O1 H1 b l1 S1 h1 => ?_
  cases b with
  | false => rw [if_neg (by decide)] at h1 ⊢; exact g _ _ _ _ _ S1 (r0.mono l1) _ _ h1 fun Γ2 O2 H2 c l2 S2 h2 => k _ _ _ _ (l1.trans l2) S2 h2
  | true => rw [if_pos rfl] at h1 ⊢; exact k _ _ _ _ l1 S1 h1
theorem zbp {t : TT} {T : TTW} (h : xP K t T) : xP K (JD t) (UL T) := by
  intro Γ O H ρ σ S r0 Q R hT k
  exact h Γ O H ρ σ S r0 _ _ hT fun Γ1 O1 H1 b l1 S1 h1 => k _ _ _ _ l1 S1 h1
noncomputable def zao (Ta Tb : TEW) : TEW := fun ρ O R => Ta ρ O fun x O1 => ∃ c, x = .d (.bool c) ∧ if c = true then Tb ρ O1 R else R (.d (.bool false)) O1
noncomputable def zap (Ta : TEW) : TEW := fun ρ O R => Ta ρ O fun x O1 => ∃ c, x = .d (.bool c) ∧ R (.d (.bool (!c))) O1
theorem Ka {ta tb : TE} {Ta Tb : TEW} (ha : RefE K ta Ta) (hb : RefE K tb Tb) : RefE K (K7 ta tb) (zao Ta Tb) := by
  intro Γ O H ρ σ S r0 Q R hT k
  refine ha Γ O H ρ σ S r0 _ _ hT fun Γ1 O1 H1 x v l1 S1 rx h1 => ?_
  obtain ⟨c, rfl, h1⟩ := h1
  refine ⟨c, rx, ?_⟩
  cases c with
  | true => rw [if_pos rfl] at h1 ⊢; exact hb _ _ _ _ _ S1 (r0.mono l1) _ _ h1 fun Γ2 O2 H2 y u l2 S2 ry h2 => k _ _ _ _ _ (l1.trans l2) S2 ry h2
  | false => rw [if_neg (by decide)] at h1 ⊢; exact k _ _ _ _ _ l1 S1 ue h1
theorem Kb {ta : TE} {Ta : TEW} (ha : RefE K ta Ta) : RefE K (K8 ta) (zap Ta) := by
  intro Γ O H ρ σ S r0 Q R hT k
  refine ha Γ O H ρ σ S r0 _ _ hT fun Γ1 O1 H1 x v l1 S1 rx h1 => ?_
  obtain ⟨c, rfl, h1⟩ := h1
  exact ⟨c, rx, k _ _ _ _ _ l1 S1 ue h1⟩
noncomputable def wIf (T : TTW) (Ta Tb : TEW) : TEW := fun ρ O R => T ρ O fun c O1 => if c = true then Ta ρ O1 R else Tb ρ O1 R
theorem zcI {t : TT} {T : TTW} {ta tb : TE} {Ta Tb : TEW} (h : xP K t T) (ha : RefE K ta Ta) (hb : RefE K tb Tb) : RefE K (tIf t ta tb) (wIf T Ta Tb) := by
  intro Γ O H ρ σ S r0 Q R hT k
  refine h Γ O H ρ σ S r0 _ _ hT fun Γ1 O1 H1 b l1 S1 h1 => ?_
  cases b with
  | true => rw [if_pos rfl] at h1 ⊢; exact ha _ _ _ _ _ S1 (r0.mono l1) _ _ h1 fun Γ2 O2 H2 y u l2 S2 ry h2 => k _ _ _ _ _ (l1.trans l2) S2 ry h2
  | false => rw [if_neg (by decide)] at h1 ⊢; exact hb _ _ _ _ _ S1 (r0.mono l1) _ _ h1 fun Γ2 O2 H2 y u l2 S2 ry h2 => k _ _ _ _ _ (l1.trans l2) S2 ry h2
noncomputable def UM (O : OM) : W → Option Bool
  | .d .none => some false
  | .d (.bool b) => some b
  | .d (.int i) => some (i != 0)
  | .d (.str z) => some (z.length != 0)
  | .d (.list ds) => some (!ds.isEmpty)
  | .d (.tuple ds) => some (!ds.isEmpty)
  | .own a => match O a with
    | some (.lst ws) => some (!ws.isEmpty)
    | some (.dK kvs) => some (!kvs.isEmpty)
    | _ => none
  | _ => none
noncomputable def Xr : W → Prop
  | .d (.str z) => z.length ≤ sizeLine
  | _ => True
theorem vn {α β : Type} {F : α → β → Prop} {xs : List α} {ys : List β} (r : Paired F xs ys) : xs.isEmpty = ys.isEmpty := by cases r <;> rfl
theorem Kc {Γ : Gh} {O : OM} {H : Hp} {w : W} {v : V} {b : Bool} (S : Sim K Γ O H) (r : relW K Γ w v) (e : UM O w = some b) (hs : Xr w) : Xb K v H b := by
  cases w with
  | d x =>
    cases x with
    | none => rw [show v = .non from r]; cases e; rfl
    | bool i => rw [show v = .bl i from r]; cases e; rfl
    | int i => rw [show v = .int i from r]; cases e; rfl
    | str z =>
      rw [show v = .str z from r]; cases e
      refine ⟨hs, ?_⟩
      show (z.length != 0) = ((z.length : Int) != 0)
      cases hz : z.length with
      | zero => rfl
      | succ n => simp only [bne, Nat.beq_eq_true_eq]; simp; omega
    | list ds =>
      cases e
      obtain ⟨a, xs, rfl, h1, h2⟩ := r
      refine .inl ⟨xs, h1.same S.z, ?_⟩
      rw [← vn (yZ h2 : relWs K Γ _ _)]
      simp
    | tuple ds =>
      cases e
      obtain ⟨a, xs, rfl, h1, h2⟩ := r
      refine .inr (.inl ⟨xs, h1.same S.z, ?_⟩)
      rw [← vn (yZ h2 : relWs K Γ _ _)]
      simp
    | dict _ => cases e
  | own a =>
    cases (show v = .ref a from r)
    simp only [UM] at e
    split at e
    · rename_i ws h
      cases e
      obtain ⟨_, vs, h1, h2⟩ := S.o _ _ h
      exact .inl ⟨vs, SqL.of h1, by rw [vn h2]⟩
    · rename_i kvs h
      cases e
      obtain ⟨_, vs, h1, h2⟩ := S.o _ _ h
      exact .inr (.inr ⟨vs, h1, by rw [vn h2]⟩)
    · cases e
  | row a i => cases e
noncomputable def Kd (T : TEW) : TTW := fun ρ O R => T ρ O fun x O1 => ∃ b, UM O1 x = some b ∧ Xr x ∧ R b O1
theorem zbq {t : TE} {T : TEW} (h : RefE K t T) : xP K (fun σ H Q => t σ H fun x H' => ∃ k, Xb K x H' k ∧ Q k H') (Kd T) := by
  intro Γ O H ρ σ S r0 Q R hT k
  refine h Γ O H ρ σ S r0 _ _ hT fun Γ1 O1 H1 x v l1 S1 rx h1 => ?_
  obtain ⟨c, e, hs, h1⟩ := h1
  exact ⟨c, Kc S1 rx e hs, k _ _ _ _ l1 S1 h1⟩
noncomputable def Ke : TAW := fun _ O R => R [] O
noncomputable def UN (Ta : TEW) (Tr : TAW) : TAW := fun ρ O R => Ta ρ O fun x O1 => Tr ρ O1 fun xs O2 => R (x :: xs) O2
theorem zbr : xF K jq Ke := fun Γ O H ρ σ S r0 Q R h k => k _ _ _ _ _ (Le.refl _) S .nil h
theorem Kf {ta : TE} {t : TA} {Ta : TEW} {T : TAW} (ha : RefE K ta Ta) (hr : xF K t T) : xF K (j4 ta t) (UN Ta T) := by
  intro Γ O H ρ σ S r0 Q R h k
  refine ha Γ O H ρ σ S r0 _ _ h fun Γ1 O1 H1 x v l1 S1 rx h1 => ?_
  exact hr Γ1 O1 H1 ρ σ S1 (r0.mono l1) _ _ h1 fun Γ2 O2 H2 ws vs l2 S2 rs h2 => k _ _ _ _ _ (l1.trans l2) S2 (.cons (rx.mono l2) rs) h2
noncomputable def zcJ (T : TAW) : TEW := fun ρ O R => T ρ O fun ws O1 => ∃ ds, yM ws = some ds ∧ ds.length ≤ 1000 ∧ R (.d (.tuple ds)) O1
noncomputable def zcK (T : TAW) : TEW := fun ρ O R => T ρ O fun ws O1 => ∃ ds, yM ws = some ds ∧ ds.length ≤ 1000 ∧ R (.d (.list ds)) O1
theorem uv {n : Nat} (h : n ≤ 1000) : n ≤ sizeLine := Nat.le_of_lt (ve h)
theorem jy {Γ : Gh} {O : OM} {H : Hp} {ds : List PyData} {vs : List V} {p : Addr} (S : Sim K Γ O H) (hr : Reps K Γ.Z ds vs) (hp : H p = none) : ∃ Γ', Le Γ Γ' ∧ Sim K Γ' O (upd H p (.tup vs)) ∧ relW K Γ' (.d (.tuple ds)) (.ref p) := by
  obtain ⟨l, S'⟩ := S.newD hp (.tup vs)
  exact ⟨_, l, S', p, vs, rfl, SqT.of zx, Reps.same l.z _ _ hr⟩
theorem uC {Γ : Gh} {O : OM} {H : Hp} {ds : List PyData} {vs : List V} {p : Addr} (S : Sim K Γ O H) (hr : Reps K Γ.Z ds vs) (hp : H p = none) : ∃ Γ', Le Γ Γ' ∧ Sim K Γ' O (upd H p (.lst vs)) ∧ relW K Γ' (.d (.list ds)) (.ref p) := by
  obtain ⟨l, S'⟩ := S.newD hp (.lst vs)
  exact ⟨_, l, S', p, vs, rfl, SqL.of zx, Reps.same l.z _ _ hr⟩
theorem Z1 {Γ : Gh} {O : OM} {H : Hp} {ws : List W} {vs : List V} {p : Addr} (S : Sim K Γ O H) (hr : relWs K Γ ws vs) (hp : H p = none) : O p = none ∧ Sim K Γ (updO O p (.lst ws)) (upd H p (.lst vs)) :=
  ⟨(S.free hp).2.1, S.newO hp (by intro _ h; cases h) ⟨vs, zx, hr⟩⟩
theorem zbs {t : TA} {T : TAW} (h : xF K t T) : RefE K (JS t) (zcJ T) := by
  intro Γ O H ρ σ S r0 Q R hT k
  refine h Γ O H ρ σ S r0 _ _ hT fun Γ1 O1 H1 ws vs l1 S1 rs h1 => ?_
  obtain ⟨ds, e, hl, h1⟩ := h1
  rw [x0 e] at rs
  refine ⟨by rw [← Paired.length rs, List.length_map]; exact uv hl, fun p hp => ?_⟩
  obtain ⟨Γ', l, S', r'⟩ := jy S1 (yy rs) hp
  exact k _ _ _ _ _ (l1.trans l) S' r' h1
theorem zbt {t : TA} {T : TAW} (h : xF K t T) : RefE K (ZT t) (zcK T) := by
  intro Γ O H ρ σ S r0 Q R hT k
  refine h Γ O H ρ σ S r0 _ _ hT fun Γ1 O1 H1 ws vs l1 S1 rs h1 => ?_
  obtain ⟨ds, e, hl, h1⟩ := h1
  rw [x0 e] at rs
  refine ⟨by rw [← Paired.length rs, List.length_map]; exact uv hl, fun p hp => ?_⟩
  obtain ⟨Γ', l, S', r'⟩ := uC S1 (yy rs) hp
  exact k _ _ _ _ _ (l1.trans l) S' r' h1
end
end L2
namespace L2
open PySem PySem.Spec PyProof.Rows
noncomputable abbrev SpW := List W → OM → WK → Prop
noncomputable def zd (K : PySem.W.Frag) (s : SpW) : Sp := fun vs H Q _ => ∃ Γ O ws R, Sim K Γ O H ∧ relWs K Γ ws vs ∧ s ws O R ∧ ∀ Γ' O' H' w v, Le Γ Γ' → Sim K Γ' O' H' → relW K Γ' w v → R w O' → Q v H'
noncomputable def Clo (R : WK) : WK := fun w O => R w O ∨ ∃ a ds, w = .own a ∧ O a = some (.lst (ds.map .d)) ∧ R (.d (.list ds)) (del O a)
noncomputable def vD (N : List Str) (ws : List W) : WS := ws.map some ++ List.replicate (N.length - ws.length) none
section
variable {K : PySem.W.Frag}
theorem qF {Γ : Gh} {N : List Str} {ws : List W} {vs : List V} (h : relWs K Γ ws vs) : relR K Γ (vD N ws) (L2.start N vs) := by
  unfold vD L2.start
  rw [Paired.length h]
  refine Paired.appP ?_ ?_
  · induction h with
    | nil => exact .nil
    | cons a b ih => exact .cons a ih
  · generalize N.length - vs.length = n
    induction n with
    | zero => exact .nil
    | succ n ih => exact .cons trivial ih
theorem uw {Γ : Gh} {O : OM} {H : Hp} {w : W} {v : V} {R : WK} {Q : VK} (S : Sim K Γ O H) (r : relW K Γ w v) (h : Clo R w O) (k : ∀ Γ' O' H' w v, Le Γ Γ' → Sim K Γ' O' H' → relW K Γ' w v → R w O' → Q v H') : Q v H := by
  rcases h with h | ⟨a, ds, rfl, e, h⟩
  · exact k _ _ _ _ _ (Le.refl _) S r h
  · obtain ⟨Γ', l, S', r'⟩ := S.freeze e
    cases (show v = .ref a from r)
    exact k _ _ _ _ _ l S' r' h
variable {P : Program} {w : World} {mg : Str → Option Value} {base : Heap}
theorem Fun.okW {x qual : Str} {st : Stmt} {f : Addr} {fd : FuncData} {N ps : List Str} {k : Nat} {s : SpW} (F : Fun K x qual st f fd) (S : FnScope N ps (defScope st)) (len : ∀ ws O R, s ws O R → ws.length = ps.length)
    (hbody : ∀ (cdv : Value) (A : Around) (outer : List Env) (sh : Shared) (H : Hp) (E : XK), Room k (A.deeper (envOfC qual (defScope st) sh.heap.objs.size f cdv)) →
      ∃ t T, PSs (uh CX0 P w K mg base N qual (defScope st) f cdv A outer sh H E).nox (defBody st) t ∧ RefS K t T ∧ ∀ ws O R, s ws O R → T { nx := fun _ O' => Clo R (.d .none) O', rt := Clo R } (vD N ws) O) : FnOk P w K mg base CX0 (k + 1) f fd ps (zd K s) := by
  refine F.ok S (fun vs H Q E h => ?_) (fun cdv A outer sh H vs Q E hr h => ?_)
  · obtain ⟨Γ, O, ws, R, S1, r, hs, _⟩ := h
    rw [← Paired.length r]
    exact len ws O R hs
  · obtain ⟨t, T, h1, h2, h3⟩ := hbody cdv A outer sh H E hr
    obtain ⟨Γ, O, ws, R, S1, r, hs, kk⟩ := h
    refine ⟨t, h1, h2 Γ O H _ _ _ _ S1 (qF r) (h3 ws O R hs) ⟨fun Γ' O' H' ρ' σ' l S' r' h' => ?_, fun Γ' O' H' w v l S' r' h' => ?_, fun _ _ _ _ _ _ _ _ h => h.elim, fun _ _ _ _ _ _ _ _ h => h.elim⟩⟩
    · exact uw S' uu h' fun Γ2 O2 H2 w v l2 => kk _ _ _ _ _ (l.trans l2)
    · exact uw S' r' h' fun Γ2 O2 H2 w v l2 => kk _ _ _ _ _ (l.trans l2)
theorem Fun.okV {x qual : Str} {st : Stmt} {f : Addr} {fd : FuncData} {N ps : List Str} {k : Nat} {s : SpW} {t : TS} {T : TSW} (F : Fun K x qual st f fd) (S : FnScope N ps (defScope st)) (len : ∀ ws O R, s ws O R → ws.length = ps.length)
    (hP : ∀ (cdv : Value) (A : Around) (outer : List Env) (sh : Shared) (H : Hp) (E : XK), Room k (A.deeper (envOfC qual (defScope st) sh.heap.objs.size f cdv)) → PSs (uh CX0 P w K mg base N qual (defScope st) f cdv A outer sh H E).nox (defBody st) t)
    (hR : RefS K t T) (hb : ∀ ws O R, s ws O R → T { nx := fun _ O' => Clo R (.d .none) O', rt := Clo R } (vD N ws) O) : FnOk P w K mg base CX0 (k + 1) f fd ps (zd K s) :=
  F.okW S len fun cdv A outer sh H E hr => ⟨t, T, hP cdv A outer sh H E hr, hR, hb⟩
theorem FunD.okW {x qual : Str} {st : Stmt} {ds : List Value} {f : Addr} {fd : FuncData} {N ps : List Str} {k : Nat} {s : SpW} (F : FunD K x qual st ds f fd) (S : FnScope N ps (defScope st)) (len : ∀ ws O R, s ws O R → ws.length = ps.length)
    (hbody : ∀ (cdv : Value) (A : Around) (outer : List Env) (sh : Shared) (H : Hp) (E : XK), Room k (A.deeper (envOfC qual (defScope st) sh.heap.objs.size f cdv)) →
      ∃ t T, PSs (uh CX0 P w K mg base N qual (defScope st) f cdv A outer sh H E).nox (defBody st) t ∧ RefS K t T ∧ ∀ ws O R, s ws O R → T { nx := fun _ O' => Clo R (.d .none) O', rt := Clo R } (vD N ws) O) : FnOk P w K mg base CX0 (k + 1) f fd ps (zd K s) := by
  refine F.ok S (fun vs H Q E h => ?_) (fun cdv A outer sh H vs Q E hr h => ?_)
  · obtain ⟨Γ, O, ws, R, S1, r, hs, _⟩ := h
    rw [← Paired.length r]
    exact len ws O R hs
  · obtain ⟨t, T, h1, h2, h3⟩ := hbody cdv A outer sh H E hr
    obtain ⟨Γ, O, ws, R, S1, r, hs, kk⟩ := h
    refine ⟨t, h1, h2 Γ O H _ _ _ _ S1 (qF r) (h3 ws O R hs) ⟨fun Γ' O' H' ρ' σ' l S' r' h' => ?_, fun Γ' O' H' w v l S' r' h' => ?_, fun _ _ _ _ _ _ _ _ h => h.elim, fun _ _ _ _ _ _ _ _ h => h.elim⟩⟩
    · exact uw S' uu h' fun Γ2 O2 H2 w v l2 => kk _ _ _ _ _ (l.trans l2)
    · exact uw S' r' h' fun Γ2 O2 H2 w v l2 => kk _ _ _ _ _ (l.trans l2)
theorem FunD.okV {x qual : Str} {st : Stmt} {ds : List Value} {f : Addr} {fd : FuncData} {N ps : List Str} {k : Nat} {s : SpW} {t : TS} {T : TSW} (F : FunD K x qual st ds f fd) (S : FnScope N ps (defScope st)) (len : ∀ ws O R, s ws O R → ws.length = ps.length)
    (hP : ∀ (cdv : Value) (A : Around) (outer : List Env) (sh : Shared) (H : Hp) (E : XK), Room k (A.deeper (envOfC qual (defScope st) sh.heap.objs.size f cdv)) → PSs (uh CX0 P w K mg base N qual (defScope st) f cdv A outer sh H E).nox (defBody st) t)
    (hR : RefS K t T) (hb : ∀ ws O R, s ws O R → T { nx := fun _ O' => Clo R (.d .none) O', rt := Clo R } (vD N ws) O) : FnOk P w K mg base CX0 (k + 1) f fd ps (zd K s) :=
  F.okW S len fun cdv A outer sh H E hr => ⟨t, T, hP cdv A outer sh H E hr, hR, hb⟩
end
section
variable {K : PySem.W.Frag}
theorem kH {Γ : Gh} : ∀ {vs : List V}, vs.all scV = true → relWs K Γ (vs.map ofV) vs
  | [], _ => .nil
  | v :: vs, h => by
    simp at h
    exact .cons (j8 h.1) (kH (by simpa using h.2))
noncomputable def j9 (s : SpW) (dvs : List V) (T : TAW) : TEW := fun ρ O R => T ρ O fun ws O1 => s (ws ++ dvs.map ofV) O1 R
theorem Xs {s : SpW} {dvs : List V} {t : TA} {T : TAW} (h : xF K t T) (hd : dvs.all scV = true := by rfl) : RefE K (j6 (zd K s) dvs E0 t) (j9 s dvs T) := by
  intro Γ O H ρ σ S r0 Q R hT k
  refine h Γ O H ρ σ S r0 _ _ hT fun Γ1 O1 H1 ws vs l1 S1 rs h1 => ?_
  exact ⟨Γ1, O1, _, R, S1, Paired.appP rs (kH hd), h1, fun Γ2 O2 H2 w v l2 S2 r2 h2 => k _ _ _ _ _ (l1.trans l2) S2 r2 h2⟩
noncomputable def wCB (r : List W → OM → WK → Prop) (T : TAW) : TEW := fun ρ O R => T ρ O fun ws O1 => r ws O1 R
theorem zcL {r : List V → Hp → VK → Prop} {rw : List W → OM → WK → Prop} {t : TA} {T : TAW} (hr : RefC K r rw) (h : xF K t T) : RefE K (tCB r t) (wCB rw T) := by
  intro Γ O H ρ σ S r0 Q R hT k
  refine h Γ O H ρ σ S r0 _ _ hT fun Γ1 O1 H1 ws vs l1 S1 rs h1 => ?_
  exact hr _ _ _ _ _ S1 rs _ _ h1 fun Γ2 O2 H2 w v l2 S2 r2 h2 => k _ _ _ _ _ (l1.trans l2) S2 r2 h2
theorem Zm {Γ : Gh} {f : Str} : ∀ {fs : List (Str × W)} {vs : List (Str × V)}, yP K Γ fs vs → (fs.lookup f = none → vs.lookup f = none) ∧ ∀ w, fs.lookup f = some w → ∃ v, vs.lookup f = some v ∧ relW K Γ w v := by
  intro fs vs h
  unfold yP at h
  induction h with
  | nil => exact ⟨fun _ => rfl, fun w e => by cases e⟩
  | cons a b ih =>
    rename_i p q ps qs
    obtain ⟨k, x⟩ := p
    obtain ⟨k', y⟩ := q
    obtain ⟨e1, e2⟩ := a
    cases (show k = k' from e1)
    simp only [List.lookup_cons]
    cases e : f == k with
    | true => exact ⟨fun z => (by cases z), fun w z => by cases z; exact ⟨_, rfl, e2⟩⟩
    | false => exact ih
noncomputable def zaq (C : Addr) (m : Str) (s : SpW) (Ta : TEW) (T : TAW) : TEW := fun ρ O R => Ta ρ O fun x O1 => ∃ a dx fs, x = .own a ∧ O1 a = some (.ins C dx fs) ∧ fs.lookup m = none ∧ T ρ O1 fun ws O2 => s (x :: ws) O2 R
theorem Kg {C : Addr} {m : Str} {s : SpW} {ta : TE} {t : TA} {Ta : TEW} {T : TAW} (ha : RefE K ta Ta) (h : xF K t T) : RefE K (Uy C m (zd K s) [] E0 ta t) (zaq C m s Ta T) := by
  intro Γ O H ρ σ S r0 Q R hT k
  refine ha Γ O H ρ σ S r0 _ _ hT fun Γ1 O1 H1 x v l1 S1 rx h1 => ?_
  obtain ⟨a, dx, fs, rfl, ho, hm, h1⟩ := h1
  cases (show v = .ref a from rx)
  obtain ⟨_, vs, q1, q2⟩ := S1.o _ _ ho
  refine ⟨a, dx, vs, rfl, q1, (Zm q2).1 hm, ?_⟩
  refine h _ _ _ _ _ S1 (r0.mono l1) _ _ h1 fun Γ2 O2 H2 ws us l2 S2 rs h2 => ?_
  rw [List.append_nil]
  exact ⟨Γ2, O2, _, R, S2, .cons xG rs, h2, fun Γ3 O3 H3 w v l3 S3 r3 h3 => k _ _ _ _ _ ((l1.trans l2).trans l3) S3 r3 h3⟩
theorem Sim.junk {Γ : Gh} {O : OM} {H : Hp} (S : Sim K Γ O H) {p : Addr} (hp : H p = none) (o : HO) : Sim K Γ O (upd H p o) := by
  obtain ⟨hz, hO, hG⟩ := S.free hp
  refine ⟨fun b u e => ?_, fun a oo e => ?_, fun a rs e => ?_, vP S.f (S.f.free hp), S.gn, S.fg, S.fd, S.u⟩
  · rw [zj (fun z => by rw [z, hz] at e; cases e)]; exact S.z _ _ e
  · have hap : a ≠ p := fun z => by rw [z, hO] at e; cases e
    obtain ⟨h1, h2⟩ := S.o _ _ e
    refine ⟨h1, h2.keep (Le.refl _) (zj hap) rfl fun rs r hg ⟨rows, hrw⟩ hr => ?_⟩
    subst hrw
    obtain ⟨_, _, vs, q⟩ := S.rowIn e hg hr
    exact ⟨zj (fun z => by rw [z, hp] at q; cases q), rfl, rfl⟩
  · obtain ⟨o', h⟩ := S.gd _ _ e
    exact ⟨o', by rw [zj (yS h hp)]; exact h⟩
noncomputable def zar (C : Addr) (s : SpW) (T : TAW) : TEW := fun ρ O R => T ρ O fun ws O1 => ∀ x dx, O1 x = none → s (.own x :: ws) (updO O1 x (.ins C dx [])) fun w O2 => w = .d .none ∧ R (.own x) O2
theorem Kh {C : Addr} {s : SpW} {t : TA} {T : TAW} (h : xF K t T) : RefE K (Uz C (zd K s) [] E0 t) (zar C s T) := by
  intro Γ O H ρ σ S r0 Q R hT k
  refine h _ _ _ _ _ S r0 _ _ hT fun Γ1 O1 H1 ws vs l1 S1 rs h1 => ?_
  intro x dx hx hdx hne
  have hx' : upd H1 dx (.own x) x = none := by rw [zj (Ne.symm hne)]; exact hx
  have S2 := S1.junk hdx (.own x)
  have S3 := S2.newO hx' (o := .ins C dx []) (oo := .ins C dx []) (by intro _ h; cases h) ⟨[], zx, .nil⟩
  rw [List.append_nil]
  refine ⟨Γ1, _, _, _, S3, .cons xG rs, h1 x dx (S2.free hx').2.1, fun Γ2 O2 H2 w v l2 S4 r2 h2 => ?_⟩
  obtain ⟨rfl, h2⟩ := h2
  exact ⟨r2, k _ _ _ _ _ (l1.trans l2) S4 xG h2⟩
noncomputable def ui (O : OM) (w : W) : Option (List PyData) := match xA w with
  | some ds => some ds
  | none => (yR O w).bind yM
theorem Z2 {Γ : Gh} {O : OM} {H : Hp} {w : W} {v : V} {ds : List PyData} (S : Sim K Γ O H) (r : relW K Γ w v) (e : ui O w = some ds) : ∃ a vs, v = .ref a ∧ (SqL K H a vs ∨ SqT K H a vs) ∧ Reps K Γ.Z ds vs := by
  unfold ui at e
  split at e
  · rename_i es h
    cases e
    obtain ⟨a, vs, e1, h1, h2⟩ := vm S r h
    exact ⟨a, vs, e1, .inr h1, yy h2⟩
  · cases h : yR O w with
    | none => rw [h] at e; cases e
    | some ws =>
      rw [h] at e
      obtain ⟨a, vs, e1, h1, h2⟩ := xy S r h
      rw [x0 (show yM ws = some ds from e)] at h2
      exact ⟨a, vs, e1, .inl h1, yy h2⟩
noncomputable def UO (O : OM) (w : W) : Option Nat := match xA w with
  | some ds => some ds.length
  | none => (yR O w).map (·.length)
noncomputable def Ki : List W → OM → WK → Prop := fun xs O R => ∃ w n, xs = [w] ∧ UO O w = some n ∧ R (.d (.int n)) O
theorem zdP : RefC K (fun xs H Q => ∃ p ys, xs = [.ref p] ∧ (SqL K H p ys ∨ SqT K H p ys) ∧ Q (.int ys.length) H) Ki := by
  rintro Γ O H xs vs S rs Q R ⟨w, n, rfl, e, h⟩ k
  cases rs with
  | cons rx t =>
    cases t
    unfold UO at e
    split at e
    · rename_i ds hT
      cases e
      obtain ⟨a, vs, e1, h1, h2⟩ := vm S rx hT
      subst e1
      refine ⟨a, vs, rfl, .inr h1, k _ _ _ _ _ (Le.refl _) S ?_ h⟩
      rw [← Paired.length h2, List.length_map]; rfl
    · cases hL : yR O w with
      | none => rw [hL] at e; cases e
      | some ws =>
        rw [hL] at e
        cases e
        obtain ⟨a, vs, e1, h1, h2⟩ := xy S rx hL
        subst e1
        refine ⟨a, vs, rfl, .inl h1, k _ _ _ _ _ (Le.refl _) S ?_ h⟩
        rw [← Paired.length h2]; rfl
noncomputable def zas : List W → OM → WK → Prop := fun xs O R => ∃ z, xs = [.d (.str z)] ∧ z.length ≤ sizeLine ∧ R (.d (.int z.length)) O
theorem zcM : RefC K (fun xs H Q => ∃ z, xs = [.str z] ∧ z.length ≤ sizeLine ∧ Q (.int z.length) H) zas := by
  rintro Γ O H xs vs S rs Q R ⟨z, rfl, e, h⟩ k
  cases rs with
  | cons rx t =>
    cases t
    exact ⟨z, by rw [show _ = V.str z from rx], e, k _ _ _ _ _ (Le.refl _) S vQ h⟩
noncomputable def Xt : List W → OM → WK → Prop := fun xs O R => ∃ w ds, xs = [w] ∧ ui O w = some ds ∧ R (.d (.list ds)) O
theorem zbu : RefC K (fun xs H Q => ∃ p ys, xs = [.ref p] ∧ (SqL K H p ys ∨ SqT K H p ys) ∧ ∀ l, H l = none → Q (.ref l) (upd H l (.lst ys))) Xt := by
  rintro Γ O H xs vs S rs Q R ⟨w, ds, rfl, e, h⟩ k
  cases rs with
  | cons rx t =>
    cases t
    obtain ⟨a, vs, e1, h1, h2⟩ := Z2 S rx e
    subst e1
    refine ⟨a, vs, rfl, h1, fun l hl => ?_⟩
    obtain ⟨Γ', le, S', r'⟩ := uC S h2 hl
    exact k _ _ _ _ _ le S' r' h
noncomputable def Xu : List W → OM → WK → Prop := fun xs O R => ∃ w ds, xs = [w] ∧ ui O w = some ds ∧ ∀ p, O p = none → R (.own p) (updO O p (.lst (ds.map .d)))
theorem zbv : RefC K (fun xs H Q => ∃ p ys, xs = [.ref p] ∧ (SqL K H p ys ∨ SqT K H p ys) ∧ ∀ l, H l = none → Q (.ref l) (upd H l (.lst ys))) Xu := by
  rintro Γ O H xs vs S rs Q R ⟨w, ds, rfl, e, h⟩ k
  cases rs with
  | cons rx t =>
    cases t
    obtain ⟨a, vs, e1, h1, h2⟩ := Z2 S rx e
    subst e1
    refine ⟨a, vs, rfl, h1, fun l hl => ?_⟩
    obtain ⟨hO, S'⟩ := Z1 S (yZ h2) hl
    exact k _ _ _ _ _ (Le.refl _) S' xG (h l hO)
noncomputable def Xv : List W → OM → WK → Prop := fun xs O R => ∃ w ds, xs = [w] ∧ ui O w = some ds ∧ R (.d (.tuple ds)) O
theorem zbw : RefC K (fun xs H Q => ∃ p ys, xs = [.ref p] ∧ ((SqL K H p ys ∧ ∀ l, H l = none → Q (.ref l) (upd H l (.tup ys))) ∨ (SqT K H p ys ∧ Q (.ref p) H))) Xv := by
  rintro Γ O H xs vs S rs Q R ⟨w, ds, rfl, e, h⟩ k
  cases rs with
  | cons rx t =>
    cases t
    unfold ui at e
    split at e
    · rename_i es hT
      cases e
      obtain ⟨a, vs, e1, h1, h2⟩ := vm S rx hT
      subst e1
      refine ⟨a, vs, rfl, .inr ⟨h1, k _ _ _ _ _ (Le.refl _) S ?_ h⟩⟩
      cases w with
      | d x => cases x <;> simp [xA] at hT; subst hT; exact rx
      | own b => cases hT
      | row b i => cases hT
    · cases hL : yR O w with
      | none => rw [hL] at e; cases e
      | some ws =>
        rw [hL] at e
        obtain ⟨a, vs, e1, h1, h2⟩ := xy S rx hL
        rw [x0 (show yM ws = some ds from e)] at h2
        subst e1
        refine ⟨a, vs, rfl, .inl ⟨h1, fun l hl => ?_⟩⟩
        obtain ⟨Γ', le, S', r'⟩ := jy S (yy h2) hl
        exact k _ _ _ _ _ le S' r' h
noncomputable def wI2 (g : Int → Int → Int) : List W → OM → WK → Prop := fun xs O R => ∃ i j, xs = [.d (.int i), .d (.int j)] ∧ R (.d (.int (g i j))) O
theorem zek {g : Int → Int → Int} : RefC K (fun xs H Q => ∃ i j, xs = [.int i, .int j] ∧ Q (.int (g i j)) H) (wI2 g) := by
  rintro Γ O H xs vs S rs Q R ⟨i, j, rfl, h⟩ k
  cases rs with
  | cons rx t =>
    cases t with
    | cons ry t =>
      cases t
      exact ⟨i, j, by rw [show _ = V.int i from rx, show _ = V.int j from ry], k _ _ _ _ _ (Le.refl _) S vQ h⟩
noncomputable def zat : List W → OM → WK → Prop := fun xs O R => ∃ i, (xs = [.d (.int i)] ∨ ∃ b : Bool, xs = [.d (.bool b)] ∧ i = if b then 1 else 0) ∧ R (.d (.int i)) O
theorem zcN : RefC K (fun xs H Q => (∃ i, xs = [.int i] ∧ Q (.int i) H) ∨ ∃ k, xs = [.bl k] ∧ Q (.int (if k then 1 else 0)) H) zat := by
  rintro Γ O H xs vs S rs Q R ⟨i, hx, h⟩ k
  rcases hx with rfl | ⟨b, rfl, rfl⟩
  · cases rs with
    | cons rx t => cases t; exact .inl ⟨i, by rw [show _ = V.int i from rx], k _ _ _ _ _ (Le.refl _) S vQ h⟩
  · cases rs with
    | cons rx t => cases t; exact .inr ⟨b, by rw [show _ = V.bl b from rx], k _ _ _ _ _ (Le.refl _) S vQ h⟩
noncomputable def UP : TSW := fun D ρ O => D.nx ρ O
noncomputable def vR (T U : TSW) : TSW := fun D ρ O => T { D with nx := U D } ρ O
noncomputable def UQ (T : TEW) : TSW := fun D ρ O => T ρ O fun _ O1 => D.nx ρ O1
noncomputable def Kj (T : TEW) : TSW := fun D ρ O => T ρ O D.rt
noncomputable def zdQ : TSW := fun D _ O => D.rt (.d .none) O
noncomputable def UR (c : TTW) (T U : TSW) : TSW := fun D ρ O => c ρ O fun b O1 => if b = true then T D ρ O1 else U D ρ O1
noncomputable def zcO : TSW := fun _ _ _ => False
theorem Kk : RefS K K9 UP := fun Γ O H ρ σ D DW S r h e => e.nx _ _ _ _ _ (Le.refl _) S r h
theorem Q4 : RefS K QE zcO := fun Γ O H ρ σ D DW S r h e => h.elim
theorem zbx {t u : TS} {T U : TSW} (h : RefS K t T) (g : RefS K u U) : RefS K (JE t u) (vR T U) := fun Γ O H ρ σ D DW S r hT e =>
  h Γ O H ρ σ { D with nx := u D } { DW with nx := U DW } S r hT ⟨fun Γ' O' H' ρ' σ' l S' r' h' => g _ _ _ _ _ _ _ S' r' h' (e.mono l), e.rt, e.bk, e.ct⟩
theorem Kl {t : TE} {T : TEW} (h : RefE K t T) : RefS K (Ue t) (UQ T) := fun Γ O H ρ σ D DW S r hT e =>
  h _ _ _ _ _ S r _ _ hT fun Γ1 O1 H1 w v l S1 r1 h1 => e.nx _ _ _ _ _ l S1 (r.mono l) h1
theorem zby {t : TE} {T : TEW} (h : RefE K t T) : RefS K (zb7 t) (Kj T) := fun Γ O H ρ σ D DW S r hT e =>
  h _ _ _ _ _ S r _ _ hT fun Γ1 O1 H1 w v l S1 r1 h1 => e.rt _ _ _ _ _ l S1 r1 h1
theorem zbz {c : TT} {C : TTW} {t u : TS} {T U : TSW} (hc : xP K c C) (h : RefS K t T) (g : RefS K u U) : RefS K (Uf c t u) (UR C T U) := fun Γ O H ρ σ D DW S r hT e => by
  refine hc _ _ _ _ _ S r _ _ hT fun Γ1 O1 H1 b l S1 h1 => ?_
  cases b with
  | true => rw [if_pos rfl] at h1 ⊢; exact h _ _ _ _ _ _ _ S1 (r.mono l) h1 (e.mono l)
  | false => rw [if_neg (by decide)] at h1 ⊢; exact g _ _ _ _ _ _ _ S1 (r.mono l) h1 (e.mono l)
noncomputable def Km (T : TEW) (G : TGW) : TSW := fun D ρ O => T ρ O fun x O1 => G x ρ O1 D.nx
theorem zbA {t : TE} {T : TEW} {g : TG} {G : TGW} (h : RefE K t T) (hg : RefG K g G) : RefS K (ZR t g) (Km T G) := fun Γ O H ρ σ D DW S r hT e =>
  h _ _ _ _ _ S r _ _ hT fun Γ1 O1 H1 w v l S1 r1 h1 => hg _ _ _ _ _ _ _ S1 (r.mono l) r1 _ _ h1 fun Γ2 O2 H2 ρ2 σ2 l2 => e.nx _ _ _ _ _ (l.trans l2)
noncomputable def US (i : Nat) : TGW := fun w ρ O R => R (ρ.set i (some w)) O
theorem Kn {i : Nat} : RefG K (jX i) (US i) := fun Γ O H ρ σ w v S r rw Q R h k => k _ _ _ _ _ (Le.refl _) S (Paired.setP r (show qD K Γ (some w) (some v) from rw)) h
noncomputable def zcP : TGsW := fun ds ρ O R => ds = [] ∧ R ρ O
noncomputable def zau (G : TGW) (U : TGsW) : TGsW := fun ds ρ O R => ∃ e es, ds = e :: es ∧ G (.d e) ρ O fun ρ' O' => U es ρ' O' R
theorem Ko : RefGs K zb9 zcP := by
  rintro Γ O H ρ σ ds vs S r rs Q R ⟨rfl, h⟩ k
  exact ⟨rs, k _ _ _ _ _ (Le.refl _) S r h⟩
theorem Q5 {t : TG} {u : TGs} {G : TGW} {U : TGsW} (h : RefG K t G) (g : RefGs K u U) : RefGs K (zaa t u) (zau G U) := by
  rintro Γ O H ρ σ ds vs S r rs Q R ⟨e, es, rfl, hh⟩ k
  obtain ⟨x, xs, rfl, h1, h2⟩ := rs
  refine ⟨x, xs, rfl, h _ _ _ _ _ _ _ S r (zdG h1) _ _ hh fun Γ1 O1 H1 ρ1 σ1 l1 S1 r1 q1 => ?_⟩
  exact g _ _ _ _ _ _ _ S1 r1 (Reps.same l1.z _ _ h2) _ _ q1 fun Γ2 O2 H2 ρ2 σ2 l2 => k _ _ _ _ _ (l1.trans l2)
noncomputable def zcQ (n : Nat) (U : TGsW) : TGW := fun w ρ O R => ∃ ds, xA w = some ds ∧ ds.length = n ∧ U ds ρ O R
theorem Kp {n : Nat} {t : TGs} {U : TGsW} (h : RefGs K t U) : RefG K (JH K n t) (zcQ n U) := by
  rintro Γ O H ρ σ w v S r rw Q R ⟨ds, e, hl, hh⟩ k
  obtain ⟨a, vs, e1, h1, h2⟩ := vm S rw e
  refine ⟨a, vs, e1, h1, by rw [← Paired.length h2, List.length_map]; exact hl, h _ _ _ _ _ _ _ S r (yy h2) _ _ hh k⟩
noncomputable def u9 (O : OM) (o : W) (k : Int) (w : W) : Option OM := match o with
  | .own a => match O a with
    | some (.lst ws) => (ixN ws.length k).map fun j => updO O a (.lst (ws.set j w))
    | _ => none
  | .row a r => match O a, w with
    | some (.grid rows), .d x => match rows[r]? with
      | some ds => (ixN ds.length k).map fun j => updO O a (.grid (rows.set r (ds.set j x)))
      | none => none
    | _, _ => none
  | _ => none
noncomputable def zcR (To Ti : TEW) : TGW := fun w ρ O R => To ρ O fun o O1 => Ti ρ O1 fun i O2 => ∃ k O3, i = .d (.int k) ∧ u9 O2 o k w = some O3 ∧ R ρ O3
theorem Kq {to ti : TE} {To Ti : TEW} (ho : RefE K to To) (hi : RefE K ti Ti) : RefG K (JI to ti UD) (zcR To Ti) := by
  rintro Γ O H ρ σ w v S r rw Q R h k
  refine ho _ _ _ _ _ S r _ _ h fun Γ1 O1 H1 o vo l1 S1 ro h1 => ?_
  refine hi _ _ _ _ _ S1 (r.mono l1) _ _ h1 fun Γ2 O2 H2 i vi l2 S2 ri h2 => ?_
  obtain ⟨n, O3, rfl, e, h2⟩ := h2
  have ro2 := ro.mono l2
  have rw2 := rw.mono (l1.trans l2)
  cases (show vi = .int n from ri)
  cases o with
  | d x => cases e
  | own a =>
    cases (show vo = .ref a from ro2)
    simp only [u9] at e
    split at e
    · rename_i ws hO
      cases hj : ixN ws.length n with
      | none => rw [hj] at e; cases e
      | some j =>
        rw [hj] at e
        cases e
        obtain ⟨_, us, q1, q2⟩ := S2.o _ _ hO
        refine ⟨a, us, n, j, rfl, rfl, q1, by rw [← Paired.length q2]; exact hj, ?_⟩
        exact k _ _ _ _ _ (l1.trans l2) (S2.put (oo := .lst _) hO (by intro _ h; cases h) (by intro _ h; cases h) ⟨_, zx, Paired.setP q2 rw2⟩) (r.mono (l1.trans l2)) h2
    · cases e
  | row a i =>
    obtain ⟨rs, r0, hg, hr, rfl⟩ := ro2
    simp only [u9] at e
    split at e
    · rename_i rows x hO
      cases hd : rows[i]? with
      | none => rw [hd] at e; cases e
      | some ds =>
        rw [hd] at e
        simp only at e
        cases hj : ixN ds.length n with
        | none => rw [hj] at e; cases e
        | some j =>
          rw [hj] at e
          cases e
          obtain ⟨_, rs', hg', _, hl, _, hrow⟩ := S2.o _ _ hO
          rw [hg] at hg'
          cases hg'
          obtain ⟨_, _, us, q1, q2⟩ := hrow i r0 ds hr hd
          refine ⟨r0, us, n, j, rfl, rfl, q1, by rw [← Reps.length q2]; exact hj, ?_⟩
          exact k _ _ _ _ _ (l1.trans l2) (S2.cell hO hg hr hd q1 rw2) (r.mono (l1.trans l2)) h2
    · cases e
end
end L2
namespace L2
open PySem PySem.Spec PyProof.Rows
section
variable {K : PySem.W.Frag}
noncomputable def zcS (K : PySem.W.Frag) (Γ : Gh) (J : It) (ws : List W) (keep : OM → Prop) : Prop := ∀ i Γ' O' H', Same Γ.Z Γ'.Z → (∀ a rs, Γ.G a = some rs → ∃ more, Γ'.G a = some (rs ++ more)) → Sim K Γ' O' H' → keep O' →
  (∀ w, ws[i]? = some w → J.go i H' ∧ ∀ x H2, J.yld i H' x H2 → ∃ Γ2, Le Γ' Γ2 ∧ Sim K Γ2 O' H2 ∧ relW K Γ2 w x) ∧ (i = ws.length → J.stop i H')
noncomputable abbrev TIW := WS → OM → (List W → (OM → Prop) → OM → Prop) → Prop
noncomputable def qG (K : PySem.W.Frag) (t : TI) (T : TIW) : Prop := ∀ Γ O H ρ σ, Sim K Γ O H → relR K Γ ρ σ → ∀ (Q : It → Hp → Prop) (R : List W → (OM → Prop) → OM → Prop), T ρ O R → (∀ Γ' O' H' J ws keep, Le Γ Γ' → Sim K Γ' O' H' → zcS K Γ' J ws keep → R ws keep O' → Q J H') → t σ H Q
theorem relW.up {Γ Γ' : Gh} (hz : Same Γ.Z Γ'.Z) (hg : ∀ a rs, Γ.G a = some rs → ∃ more, Γ'.G a = some (rs ++ more)) {w : W} {v : V} (h : relW K Γ w v) : relW K Γ' w v := by
  have h1 : relW K ⟨Γ'.Z, Γ'.G, Γ.F⟩ w v := relW.mono (Γ := Γ) (Γ' := ⟨Γ'.Z, Γ'.G, Γ.F⟩) ⟨rfl, hz, hg⟩ h
  cases w <;> exact h1
noncomputable def zav (T : TEW) : TIW := fun ρ O R => T ρ O fun w O1 => ∃ ws, yR O1 w = some ws ∧ R ws (fun O' => yR O' w = some ws) O1
theorem Q6 {t : TE} {T : TEW} (h : RefE K t T) : qG K (Ui K t) (zav T) := by
  intro Γ O H ρ σ S r Q R hT k
  refine h _ _ _ _ _ S r _ _ hT fun Γ1 O1 H1 w v l1 S1 r1 h1 => ?_
  obtain ⟨ws, e, h1⟩ := h1
  obtain ⟨a, vs, rfl, q1, q2⟩ := xy S1 r1 e
  refine ⟨a, rfl, ⟨vs, q1⟩, k _ _ _ _ _ _ l1 S1 (fun i Γ' O' H' hz hg S' e' => ?_) h1⟩
  obtain ⟨a', vs', ea, q1', q2'⟩ := xy S' (r1.up hz hg) e'
  cases ea
  refine ⟨fun w' hw => ?_, fun hi => ⟨vs', q1', by rw [← Paired.length q2', hi]; exact Nat.le_refl _⟩⟩
  obtain ⟨x, hx, rx⟩ := Paired.getP q2' hw
  refine ⟨⟨vs', x, q1', hx⟩, fun y H2 ⟨e2, hy⟩ => ?_⟩
  subst e2
  have := hy vs' q1'
  rw [hx] at this
  cases this
  exact ⟨Γ', Le.refl _, S', rx⟩
noncomputable def zcT (T : TEW) : TIW := fun ρ O R => T ρ O fun w O1 => ∃ ds, xA w = some ds ∧ R (ds.map .d) (fun _ => True) O1
theorem Kr {t : TE} {T : TEW} (h : RefE K t T) : qG K (JJ K t) (zcT T) := by
  intro Γ O H ρ σ S r Q R hT k
  refine h _ _ _ _ _ S r _ _ hT fun Γ1 O1 H1 w v l1 S1 r1 h1 => ?_
  obtain ⟨ds, e, h1⟩ := h1
  obtain ⟨a, vs, rfl, q1, q2⟩ := vm S1 r1 e
  refine ⟨a, rfl, ⟨vs, q1⟩, k _ _ _ _ _ _ l1 S1 (fun i Γ' O' H' hz hg S' e' => ?_) h1⟩
  obtain ⟨a', vs', ea, q1', q2'⟩ := vm S' (r1.up hz hg) e
  cases ea
  refine ⟨fun w' hw => ?_, fun hi => ⟨vs', q1', by rw [← Paired.length q2', hi]; exact Nat.le_refl _⟩⟩
  obtain ⟨x, hx, rx⟩ := Paired.getP q2' hw
  refine ⟨⟨vs', x, q1', hx⟩, fun y H2 ⟨e2, hy⟩ => ?_⟩
  subst e2
  have := hy vs' q1'
  rw [hx] at this
  cases this
  exact ⟨Γ', Le.refl _, S', rx⟩
theorem Xw {Γ : Gh} {n : Nat} {f : Nat → Int} {J : It} (hgo : ∀ i H, i < n → J.go i H) (hy : ∀ i H x H', J.yld i H x H' → H' = H ∧ x = .int (f i)) (hs : ∀ i H, n ≤ i → J.stop i H) : zcS K Γ J ((List.range n).map fun i => .d (.int (f i))) fun _ => True := by
  intro i Γ' O' H' hz hg S' _
  refine ⟨fun w hw => ?_, fun hi => hs i _ (by rw [hi]; simp)⟩
  rw [List.getElem?_map] at hw
  cases hr : (List.range n)[i]? with
  | none => rw [hr] at hw; cases hw
  | some j =>
    rw [hr] at hw
    cases hw
    obtain ⟨hi, hj⟩ := List.getElem?_eq_some_iff.mp hr
    simp at hi hj
    subst hj
    refine ⟨hgo i _ hi, fun x H2 y => ?_⟩
    obtain ⟨rfl, rfl⟩ := hy i _ x H2 y
    exact ⟨Γ', Le.refl _, S', vQ⟩
noncomputable def UT (T : TAW) : TIW := fun ρ O R => T ρ O fun ws O1 => ∃ j : Int, ws = [.d (.int j)] ∧ -(2 ^ 62) ≤ j ∧ j < 2 ^ 62 ∧ R ((List.range j.toNat).map fun (i : Nat) => .d (.int i)) (fun _ => True) O1
theorem Q7 {t : TA} {T : TAW} (h : xF K t T) : qG K (Uj t) (UT T) := by
  intro Γ O H ρ σ S r Q R hT k
  refine h _ _ _ _ _ S r _ _ hT fun Γ1 O1 H1 ws vs l1 S1 r1 h1 => ?_
  obtain ⟨j, rfl, b1, b2, h1⟩ := h1
  cases r1 with
  | cons rx t =>
    cases t
    refine ⟨j, by rw [show _ = V.int j from rx], b1, b2, k _ _ _ _ _ _ l1 S1 (Xw (f := fun i => (i : Int)) (fun i H hi => hi) (fun i H x H' ⟨e1, e2⟩ => ⟨e1, by rw [e2, Int.zero_add]⟩) fun i H hi => hi) h1⟩
noncomputable def UU (T : TAW) : TIW := fun ρ O R => T ρ O fun ws O1 => ∃ i j : Int, ws = [.d (.int i), .d (.int j)] ∧ (-(2 ^ 62) ≤ i ∧ i < 2 ^ 62 ∧ -(2 ^ 62) ≤ j ∧ j < 2 ^ 62) ∧ R ((List.range (j - i).toNat).map fun (k : Nat) => .d (.int (i + k))) (fun _ => True) O1
theorem Q8 {t : TA} {T : TAW} (h : xF K t T) : qG K (Uk t) (UU T) := by
  intro Γ O H ρ σ S r Q R hT k
  refine h _ _ _ _ _ S r _ _ hT fun Γ1 O1 H1 ws vs l1 S1 r1 h1 => ?_
  obtain ⟨i, j, rfl, b, h1⟩ := h1
  cases r1 with
  | cons rx t =>
    cases t with
    | cons ry t =>
      cases t
      exact ⟨i, j, by rw [show _ = V.int i from rx, show _ = V.int j from ry], b, k _ _ _ _ _ _ l1 S1 (Xw (f := fun k => i + (k : Int)) (fun i H hi => hi) (fun i H x H' ⟨e1, e2⟩ => ⟨e1, e2⟩) fun i H hi => hi) h1⟩
noncomputable def zaw (T : TAW) : TIW := fun ρ O R => T ρ O fun ws O1 => ∃ (i j c : Int) (n : Nat), ws = [.d (.int i), .d (.int j), .d (.int c)] ∧ R3 i j c n ∧ R ((List.range n).map fun (k : Nat) => .d (.int (i + k * c))) (fun _ => True) O1
theorem Q9 {t : TA} {T : TAW} (h : xF K t T) : qG K (zak t) (zaw T) := by
  intro Γ O H ρ σ S r Q R hT k
  refine h _ _ _ _ _ S r _ _ hT fun Γ1 O1 H1 ws vs l1 S1 r1 h1 => ?_
  obtain ⟨i, j, c, n, rfl, b, h1⟩ := h1
  cases r1 with
  | cons rx t =>
    cases t with
    | cons ry t =>
      cases t with
      | cons rz t =>
        cases t
        exact ⟨i, j, c, n, by rw [show _ = V.int i from rx, show _ = V.int j from ry, show _ = V.int c from rz], b, k _ _ _ _ _ _ l1 S1 (Xw (f := fun k => i + (k : Int) * c) (fun i H hi => hi) (fun i H x H' ⟨e1, e2⟩ => ⟨e1, e2⟩) fun i H hi => hi) h1⟩
noncomputable def xj (ws : List W) (keep : OM → Prop) (G : TGW) (TB : TSW) (D : EndsW) (ρ : WS) (O : OM) : Prop := ∃ Pv : Nat → WS → OM → Prop, Pv 0 ρ O ∧ (∀ i ρ O, Pv i ρ O → keep O) ∧
  (∀ i w ρ O, ws[i]? = some w → Pv i ρ O → G w ρ O fun ρ' O' => TB { D with nx := Pv (i + 1), ct := Pv (i + 1), bk := D.nx } ρ' O') ∧ ∀ ρ O, Pv ws.length ρ O → D.nx ρ O
noncomputable def zcU (Wi : TIW) (G : TGW) (TB : TSW) : TSW := fun D ρ O => Wi ρ O fun ws keep O1 => xj ws keep G TB D ρ O1
theorem zbB {wi : TI} {Wi : TIW} {g : TG} {G : TGW} {tb : TS} {TB : TSW} (hi : qG K wi Wi) (hg : RefG K g G) (hb : RefS K tb TB) : RefS K (JK wi g tb) (zcU Wi G TB) := by
  intro Γ O H ρ σ D DW S r hT e
  refine hi _ _ _ _ _ S r _ _ hT fun Γ1 O1 H1 J ws keep l1 S1 ok h1 => ?_
  obtain ⟨Pv, p0, pk, ps, pd⟩ := h1
  refine ⟨fun i m σ' H' => i ≤ ws.length ∧ m = ws.length - i ∧ ∃ Γ' O' ρ', Le Γ1 Γ' ∧ Sim K Γ' O' H' ∧ relR K Γ' ρ' σ' ∧ Pv i ρ' O', ⟨_, Nat.zero_le _, rfl, Γ1, O1, ρ, Le.refl _, S1, r.mono l1, p0⟩, ?_⟩
  rintro i m σ' H' ⟨hi, rfl, Γ', O', ρ', l', S', r', p'⟩
  obtain ⟨ok1, ok2⟩ := ok i Γ' O' H' l'.z l'.g S' (pk _ _ _ p')
  by_cases hlt : i < ws.length
  · obtain ⟨go, y⟩ := ok1 _ (List.getElem?_eq_getElem hlt)
    refine .inr ⟨go, fun σ2 H2 => ∃ Γ2 O2 ρ2, Le Γ1 Γ2 ∧ Sim K Γ2 O2 H2 ∧ relR K Γ2 ρ2 σ2 ∧ Pv (i + 1) ρ2 O2, fun σ2 H2 ⟨Γ2, O2, ρ2, l2, S2, r2, p2⟩ => ⟨ws.length - (i + 1), by omega, hlt, rfl, Γ2, O2, ρ2, l2, S2, r2, p2⟩, fun x H2 hy => ?_⟩
    obtain ⟨Γ2, l2, S2, rx⟩ := y x H2 hy
    refine hg _ _ _ _ _ _ _ S2 (r'.mono l2) rx _ _ (ps i _ ρ' O' (List.getElem?_eq_getElem hlt) p') fun Γ3 O3 H3 ρ3 σ3 l3 S3 r3 h3 => ?_
    have l13 := (l'.trans l2).trans l3
    refine hb _ _ _ _ _ _ _ S3 r3 h3 ⟨fun Γ4 O4 H4 ρ4 σ4 l4 S4 r4 h4 => ⟨Γ4, O4, ρ4, l13.trans l4, S4, r4, h4⟩, fun Γ4 O4 H4 w v l4 => e.rt _ _ _ _ _ ((l1.trans l13).trans l4), fun Γ4 O4 H4 ρ4 σ4 l4 => e.nx _ _ _ _ _ ((l1.trans l13).trans l4), fun Γ4 O4 H4 ρ4 σ4 l4 S4 r4 h4 => ⟨Γ4, O4, ρ4, l13.trans l4, S4, r4, h4⟩⟩
  · have hi2 : i = ws.length := by omega
    refine .inl ⟨ok2 hi2, e.nx _ _ _ _ _ (l1.trans l') S' r' (pd _ _ ?_)⟩
    rw [← hi2]; exact p'
noncomputable def xx (js : List Nat) (ρ : WS) : WS := js.map fun j => (ρ[j]?).join
theorem jz {Γ : Gh} {ρ : WS} {σ : St} (r : relR K Γ ρ σ) (n : Nat) (js : List Nat) : relR K Γ (List.replicate n none ++ xx js ρ) (qC n js σ) := by
  refine Paired.appP ?_ ?_
  · induction n with
    | zero => exact .nil
    | succ n ih => exact .cons trivial ih
  · unfold xx
    induction js with
    | nil => exact .nil
    | cons j js ih =>
      refine .cons ?_ ih
      show qD K Γ (ρ[j]?.join) (σ[j]?.join)
      cases h : ρ[j]? with
      | none => exact trivial
      | some o =>
        cases o with
        | none => exact trivial
        | some w =>
          obtain ⟨v, hv, rv⟩ := r.get h
          rw [hv]
          exact rv
noncomputable def YQ (G : TGW) (T : TTW) (E : TEW) (n : Nat) (xS : WS) (w : W) (ρ : WS) (O : OM) (k : Option W → OM → Prop) : Prop :=
  G w ρ O fun ρ1 O1 => (ρ1.length = n + xS.length ∧ ρ1.drop n = xS) ∧ T ρ1 O1 fun ok O2 => if ok = true then E ρ1 O2 fun y O3 => k (some y) O3 else k none O2
noncomputable def wLc (Wi : TIW) (n : Nat) (js : List Nat) (G : TGW) (T : TTW) (E : TEW) : TEW := fun ρ O R => Wi ρ O fun ws keep O1 => keep O1 ∧ ws.length ≤ 1000 ∧ ∃ F : W → Option PyData,
  (∀ w ∈ ws, ∀ us : WS, us.length = n → YQ G T E n (xx js ρ) w (us ++ xx js ρ) O1 fun y O2 => O2 = O1 ∧ y = (F w).map .d) ∧ R (.d (.list (ws.filterMap F))) O1
theorem kI {n : Nat} {xS ρ : WS} (h1 : ρ.length = n + xS.length) (h2 : ρ.drop n = xS) : ∃ us : WS, us.length = n ∧ ρ = us ++ xS := ⟨ρ.take n, by rw [List.length_take]; omega, by rw [← h2, List.take_append_drop]⟩
theorem zcV {wi : TI} {Wi : TIW} {n : Nat} {js : List Nat} {g : TG} {G : TGW} {tt : TT} {T : TTW} {te : TE} {E : TEW} (hi : qG K wi Wi) (hg : RefG K g G) (ht : xP K tt T) (he : RefE K te E) : RefE K (tLc wi n js g tt te) (wLc Wi n js G T E) := by
  intro Γ O H ρ σ S r Q R hT k
  refine hi _ _ _ _ _ S r _ _ hT fun Γ1 O1 H1 J ws keep l1 S1 ok h1 => ?_
  obtain ⟨hk, hlen, F, hF, hR⟩ := h1
  intro D hD
  have hFD : Γ1.F D = none := S1.f.free hD
  have r1 := jz (r.mono l1) n js
  refine ⟨fun i m σ' H' => i ≤ ws.length ∧ m = ws.length - i ∧ ∃ Γ' ρ' vs, Same Γ1.Z Γ'.Z ∧ (∀ a rs, Γ1.G a = some rs → ∃ more, Γ'.G a = some (rs ++ more)) ∧ Γ'.F = upd Γ1.F D (.lst vs) ∧ Sim K Γ' O1 H' ∧ relR K Γ' ρ' σ' ∧
    ρ'.length = n + (xx js ρ).length ∧ ρ'.drop n = xx js ρ ∧ Reps K Γ'.Z ((ws.take i).filterMap F) vs, ⟨_, Nat.zero_le _, rfl, _, _, [], Same.refl _, fun a rs h => ⟨[], by rw [List.append_nil]; exact h⟩, rfl, S1.frameNew hD (.lst []), r1.setF, by simp, by simp, rfl⟩, ?_⟩
  rintro i m σ' H' ⟨hi, rfl, Γ', ρ', vs, z', g', f', S', r', n1, n2, rp⟩
  obtain ⟨ok1, ok2⟩ := ok i Γ' O1 H' z' g' S' hk
  have hvl : vs.length ≤ i := by
    rw [← Reps.length rp]
    exact Nat.le_trans (List.length_filterMap_le _ _) (by rw [List.length_take]; omega)
  by_cases hlt : i < ws.length
  · obtain ⟨go, y⟩ := ok1 _ (List.getElem?_eq_getElem hlt)
    refine .inr ⟨go, fun σ2 H2 => ∃ Γ2 ρ2 vs2, Same Γ1.Z Γ2.Z ∧ (∀ a rs, Γ1.G a = some rs → ∃ more, Γ2.G a = some (rs ++ more)) ∧ Γ2.F = upd Γ1.F D (.lst vs2) ∧ Sim K Γ2 O1 H2 ∧ relR K Γ2 ρ2 σ2 ∧
      ρ2.length = n + (xx js ρ).length ∧ ρ2.drop n = xx js ρ ∧ Reps K Γ2.Z ((ws.take (i + 1)).filterMap F) vs2, fun σ2 H2 h => ⟨ws.length - (i + 1), by omega, hlt, rfl, h⟩, fun x H2 hy => ?_⟩
    obtain ⟨Γ2, l2, S2, rx⟩ := y x H2 hy
    obtain ⟨us, hus, rfl⟩ := kI n1 n2
    have et : ws.take (i + 1) = ws.take i ++ [ws[i]] := (List.take_append_getElem hlt).symm
    refine hg _ _ _ _ _ _ _ S2 (r'.mono l2) rx _ _ (hF _ (List.getElem_mem hlt) us hus) fun Γ3 O3 H3 ρ3 σ3 l3 S3 r3 h3 => ?_
    obtain ⟨⟨m1, m2⟩, h3⟩ := h3
    refine ht _ _ _ _ _ S3 r3 _ _ h3 fun Γ4 O4 H4 b l4 S4 h4 => ?_
    have l24 := (l2.trans l3).trans l4
    have up : ∀ Γ5, Le Γ' Γ5 → Same Γ1.Z Γ5.Z ∧ (∀ a rs, Γ1.G a = some rs → ∃ more, Γ5.G a = some (rs ++ more)) := fun Γ5 l => ⟨z'.trans l.z, fun a rs h => by
      obtain ⟨m, e⟩ := g' a rs h
      obtain ⟨m2, e2⟩ := l.g a _ e
      exact ⟨m ++ m2, by rw [← List.append_assoc]; exact e2⟩⟩
    cases b with
    | true =>
      rw [if_pos rfl] at h4 ⊢
      refine he _ _ _ _ _ S4 (r3.mono l4) _ _ h4 fun Γ5 O5 H5 w5 v5 l5 S5 r5 h5 => ?_
      obtain ⟨rfl, h5⟩ := h5
      have l25 := l24.trans l5
      cases hFw : F ws[i] with
      | none => rw [hFw] at h5; cases h5
      | some d =>
        rw [hFw] at h5
        cases h5
        have f5 : Γ5.F = upd Γ1.F D (.lst vs) := by rw [l25.f, f']
        have fD : Γ5.F D = some (.lst vs) := by rw [f5, zx]
        refine ⟨vs, S5.f _ _ fD, ve (by omega), ?_⟩
        obtain ⟨u1, u2⟩ := up Γ5 l25
        refine ⟨⟨Γ5.Z, Γ5.G, upd Γ5.F D (.lst (vs ++ [v5]))⟩, ρ3, vs ++ [v5], u1, u2, ?_, S5.framePut fD _, ((r3.mono l4).mono l5).setF, m1, m2, ?_⟩
        · show upd Γ5.F D _ = _
          rw [f5, VM]
        · rw [et, List.filterMap_append]
          have : ([ws[i]] : List W).filterMap F = [d] := by simp [hFw]
          rw [this]
          exact Reps.snoc (Reps.same l25.z _ _ rp) r5
    | false =>
      rw [if_neg (by decide)] at h4 ⊢
      obtain ⟨rfl, h4⟩ := h4
      obtain ⟨u1, u2⟩ := up Γ4 l24
      refine ⟨Γ4, ρ3, vs, u1, u2, by rw [l24.f, f'], S4, r3.mono l4, m1, m2, ?_⟩
      cases hFw : F ws[i] with
      | some d => rw [hFw] at h4; cases h4
      | none =>
        rw [et, List.filterMap_append]
        have : ([ws[i]] : List W).filterMap F = [] := by simp [hFw]
        rw [this, List.append_nil]
        exact Reps.same l24.z _ _ rp
  · have hi2 : i = ws.length := by omega
    subst hi2
    refine .inl ⟨ok2 rfl, ?_⟩
    rw [List.take_length] at rp
    obtain ⟨q1, q2, q3⟩ := S'.unframe f' hFD rp
    exact k ⟨upd Γ'.Z D (.lst vs), Γ'.G, Γ1.F⟩ _ _ _ _ (l1.trans ⟨rfl, z'.trans q1, g'⟩) q2 q3 hR
end
end L2
namespace L2
open PySem PySem.Spec PyProof.Rows
section
variable {K : PySem.W.Frag}
noncomputable def y6 {α : Type} (f : Str) (v : α) : List (Str × α) → List (Str × α)
  | [] => [(f, v)]
  | (g, x) :: r => if g = f then (g, v) :: r else (g, x) :: y6 f v r
theorem UV {Γ : Gh} {f : Str} {w : W} {v : V} (r : relW K Γ w v) {fs : List (Str × W)} {vs : List (Str × V)} (h : yP K Γ fs vs) : yP K Γ (y6 f w fs) (x5 f v vs) := by
  unfold yP at h ⊢
  induction h with
  | nil => exact .cons ⟨rfl, r⟩ .nil
  | cons a b ih =>
    rename_i p q ps qs
    obtain ⟨k, x⟩ := p
    obtain ⟨k', y⟩ := q
    obtain ⟨e1, e2⟩ := a
    cases (show k = k' from e1)
    simp only [y6, x5]
    split
    · exact .cons ⟨rfl, r⟩ b
    · exact .cons ⟨rfl, e2⟩ ih
noncomputable def kJ : W → Option Key
  | .d (.int i) => some (.inl i)
  | .d (.str x) => some (.inr x)
  | _ => none
theorem Z3 {Γ : Gh} {w : W} {v : V} {k : Key} (r : relW K Γ w v) (e : kJ w = some k) : v = kV k := by
  cases w with
  | d x =>
    cases x <;> simp [kJ] at e
    · subst e; exact r
    · subst e; exact r
  | own a => cases e
  | row a i => cases e
section
variable {κ α : Type} [DecidableEq κ]
noncomputable def xl (kvs : List (κ × α)) (k : κ) : Option α := (kvs.find? fun kv => decide (kv.1 = k)).map (·.2)
noncomputable def yT (kvs : List (κ × α)) (k : κ) (v : α) : List (κ × α) := if (kvs.any fun kv => decide (kv.1 = k)) = true then kvs.map (fun kv => if kv.1 = k then (kv.1, v) else kv) else kvs ++ [(k, v)]
noncomputable def uf (kvs more : List (κ × α)) : List (κ × α) := more.foldl (fun acc kv => yT acc kv.1 kv.2) kvs
end
theorem Ja {Γ : Gh} {k : Key} {kvs : List (Key × W)} {vs : List (Key × V)} (h : yP K Γ kvs vs) : (xl kvs k = none → vq vs k = none) ∧ ∀ w, xl kvs k = some w → ∃ v, vq vs k = some v ∧ relW K Γ w v := by
  unfold yP at h
  induction h with
  | nil => exact ⟨fun _ => rfl, fun w e => by cases e⟩
  | cons a b ih =>
    rename_i p q ps qs
    obtain ⟨k1, x⟩ := p
    obtain ⟨k', y⟩ := q
    obtain ⟨e1, e2⟩ := a
    cases (show k1 = k' from e1)
    simp only [xl, vq, List.find?_cons] at ih ⊢
    by_cases hk : k1 = k
    · simp [hk]; exact e2
    · simp only [hk, decide_false]; exact ih
theorem Jb {Γ : Gh} {k : Key} {kvs : List (Key × W)} {vs : List (Key × V)} (h : yP K Γ kvs vs) : (kvs.any fun kv => decide (kv.1 = k)) = vs.any fun kv => decide (kv.1 = k) := by
  unfold yP at h
  induction h with
  | nil => rfl
  | cons a b ih => rw [List.any_cons, List.any_cons, a.1, ih]
theorem Ys {Γ : Gh} {k : Key} {w : W} {v : V} (r : relW K Γ w v) {kvs : List (Key × W)} {vs : List (Key × V)} (h : yP K Γ kvs vs) : yP K Γ (yT kvs k w) (xU vs k v) := by
  unfold yT xU
  rw [Jb h]
  split
  · have key : ∀ {kvs : List (Key × W)} {vs : List (Key × V)}, yP K Γ kvs vs → yP K Γ (kvs.map fun kv => if kv.1 = k then (kv.1, w) else kv) (vs.map fun kv => if kv.1 = k then (kv.1, v) else kv) := fun {kvs vs} h => by
      unfold yP at h ⊢
      induction h with
      | nil => exact .nil
      | cons a b ih =>
        rename_i p q ps qs
        obtain ⟨k1, x⟩ := p
        obtain ⟨k', y⟩ := q
        obtain ⟨e1, e2⟩ := a
        cases (show k1 = k' from e1)
        refine .cons ?_ ih
        dsimp only
        split
        · exact ⟨rfl, r⟩
        · exact ⟨rfl, e2⟩
    exact key h
  · exact Paired.appP h (.cons ⟨rfl, r⟩ .nil)
theorem qa {Γ : Gh} {more : List (Key × W)} {ms : List (Key × V)} (g : yP K Γ more ms) : ∀ {kvs : List (Key × W)} {vs : List (Key × V)}, yP K Γ kvs vs → yP K Γ (uf kvs more) (xY vs ms) := by
  unfold uf xY
  unfold yP at g
  induction g with
  | nil => exact fun h => h
  | cons a b ih =>
    rename_i p q ps qs
    intro kvs vs h
    obtain ⟨k1, x⟩ := p
    obtain ⟨k', y⟩ := q
    obtain ⟨e1, e2⟩ := a
    cases (show k1 = k' from e1)
    exact ih (Ys e2 h)
noncomputable def Zn : List (TEW × TEW) → WS → OM → (List (W × W) → OM → Prop) → Prop
  | [], _, O, R => R [] O
  | (Tk, Tv) :: ts, ρ, O, R => Tk ρ O fun k O1 => Tv ρ O1 fun v O2 => Zn ts ρ O2 fun ps O3 => R ((k, v) :: ps) O3
inductive RefPs (K : PySem.W.Frag) : List (TE × TE) → List (TEW × TEW) → Prop
  | nil : RefPs K [] []
  | cons {tk tv : TE} {Tk Tv : TEW} {ts : List (TE × TE)} {Ts : List (TEW × TEW)} : RefE K tk Tk → RefE K tv Tv → RefPs K ts Ts → RefPs K ((tk, tv) :: ts) ((Tk, Tv) :: Ts)
theorem Jc {ts : List (TE × TE)} {Ts : List (TEW × TEW)} (h : RefPs K ts Ts) : ∀ Γ O H ρ σ, Sim K Γ O H → relR K Γ ρ σ → ∀ (Q : List (V × V) → Hp → Prop) (R : List (W × W) → OM → Prop), Zn Ts ρ O R →
    (∀ Γ' O' H' ws vs, Le Γ Γ' → Sim K Γ' O' H' → Paired (fun p q => relW K Γ' p.1 q.1 ∧ relW K Γ' p.2 q.2) ws vs → R ws O' → Q vs H') → Zh ts σ H Q := by
  induction h with
  | nil => intro Γ O H ρ σ S r Q R hT k; exact k _ _ _ _ _ (Le.refl _) S .nil hT
  | cons hk hv _ ih =>
    intro Γ O H ρ σ S r Q R hT k
    refine hk _ _ _ _ _ S r _ _ hT fun Γ1 O1 H1 w v l1 S1 r1 h1 => ?_
    refine hv _ _ _ _ _ S1 (r.mono l1) _ _ h1 fun Γ2 O2 H2 w2 v2 l2 S2 r2 h2 => ?_
    exact ih _ _ _ _ _ S2 (r.mono (l1.trans l2)) _ _ h2 fun Γ3 O3 H3 ws vs l3 S3 rs h3 => k _ _ _ _ _ ((l1.trans l2).trans l3) S3 (.cons ⟨(r1.mono l2).mono l3, r2.mono l3⟩ rs) h3
noncomputable def YR : List (W × W) → Option (List (Key × W))
  | [] => some []
  | (k, v) :: ps => match kJ k, YR ps with
    | some k', some r => some ((k', v) :: r)
    | _, _ => none
theorem Jd {Γ : Gh} {ps : List (W × W)} {vs : List (V × V)} (r : Paired (fun p q => relW K Γ p.1 q.1 ∧ relW K Γ p.2 q.2) ps vs) : ∀ {kvs : List (Key × W)}, YR ps = some kvs → ∃ us : List (Key × V), vs = us.map (fun kv => (kV kv.1, kv.2)) ∧ yP K Γ kvs us := by
  induction r with
  | nil => intro kvs e; cases e; exact ⟨[], rfl, .nil⟩
  | cons a b ih =>
    rename_i p q ps qs
    intro kvs e
    obtain ⟨k, v⟩ := p
    obtain ⟨k', v'⟩ := q
    simp only [YR] at e
    split at e
    · rename_i k1 r1 e1 e2
      cases e
      obtain ⟨us, h1, h2⟩ := ih e2
      have hk := Z3 (show relW K Γ k k' from a.1) e1
      exact ⟨(k1, v') :: us, by rw [h1, hk]; rfl, .cons ⟨rfl, a.2⟩ h2⟩
    · cases e
noncomputable def zax (Ts : List (TEW × TEW)) : TEW := fun ρ O R => ∀ p, O p = none → Zn Ts ρ (updO O p (.dK [])) fun ps O2 => O2 p = some (.dK []) ∧ ∃ kvs, YR ps = some kvs ∧ kvs.length ≤ 15 ∧ R (.own p) (updO O2 p (.dK (uf [] kvs)))
theorem Ks {ts : List (TE × TE)} {Ts : List (TEW × TEW)} (h : RefPs K ts Ts) : RefE K (zai ts) (zax Ts) := by
  intro Γ O H ρ σ S r Q R hT k p hp
  have S1 := S.newO hp (o := .dK []) (oo := .dK []) (by intro _ h; cases h) ⟨[], zx, .nil⟩
  refine Jc h _ _ _ _ _ S1 r _ _ (hT p (S.free hp).2.1) fun Γ2 O2 H2 ws vs l2 S2 rs h2 => ?_
  obtain ⟨ho, kvs, ek, hl, h2⟩ := h2
  obtain ⟨us, h3, h4⟩ := Jd rs ek
  obtain ⟨_, vs0, q1, q2⟩ := S2.o _ _ ho
  cases q2
  refine ⟨q1, us, h3, by rw [← Paired.length h4]; exact hl, ?_⟩
  exact k _ _ _ _ _ l2 (S2.put (oo := .dK _) ho (by intro _ h; cases h) (by intro _ h; cases h) ⟨_, zx, qa h4 .nil⟩) xG h2
noncomputable def tyW (T : String) (O : OM) (w : W) : Prop := (T = "list" ∧ (yR O w).isSome = true) ∨ (T = "str" ∧ ∃ z, w = .d (.str z)) ∨ (T = "dict" ∧ ∃ a kvs, w = .own a ∧ O a = some (.dK kvs))
theorem zdR {Γ : Gh} {O : OM} {H : Hp} {T : String} {w : W} {v : V} (S : Sim K Γ O H) (r : relW K Γ w v) (h : tyW T O w) : tyV K T v H := by
  rcases h with ⟨rfl, h⟩ | ⟨rfl, z, rfl⟩ | ⟨rfl, a, kvs, rfl, h⟩
  · obtain ⟨ws, e⟩ := Option.isSome_iff_exists.mp h
    obtain ⟨a, vs, rfl, q1, _⟩ := xy S r e
    exact .inl ⟨rfl, vs, q1⟩
  · rw [show v = .str z from r]; rfl
  · cases (show v = .ref a from r)
    obtain ⟨_, vs, q1, _⟩ := S.o _ _ h
    exact .inr (.inr (.inl ⟨rfl, .inl ⟨vs, q1⟩⟩))
noncomputable def wBM (T : String) (rw : W → List W → OM → WK → Prop) (To : TEW) (Ta : TAW) : TEW := fun ρ O R => To ρ O fun x O1 => tyW T O1 x ∧ Ta ρ O1 fun xs O2 => rw x xs O2 R
theorem zcW {T : String} {r : V → List V → Hp → VK → Prop} {rw : W → List W → OM → WK → Prop} {to : TE} {To : TEW} {t : TA} {Ta : TAW} (hr : RefM K T r rw) (ho : RefE K to To) (ha : xF K t Ta) : RefE K (tBM K T r to t) (wBM T rw To Ta) := by
  intro Γ O H ρ σ S r0 Q R hT k
  refine ho _ _ _ _ _ S r0 _ _ hT fun Γ1 O1 H1 x v l1 S1 rx h1 => ?_
  refine ⟨zdR S1 rx h1.1, ha _ _ _ _ _ S1 (r0.mono l1) _ _ h1.2 fun Γ2 O2 H2 ws vs l2 S2 rs h2 => ?_⟩
  exact hr _ _ _ _ _ _ _ S2 (rx.mono l2) rs _ _ h2 fun Γ3 O3 H3 w u l3 => k _ _ _ _ _ ((l1.trans l2).trans l3)
noncomputable def Z4 (O : OM) (o w : W) : Option OM := match o with
  | .own a => match O a with
    | some (.lst ws) => if ws.length < 1000 then some (updO O a (.lst (ws ++ [w]))) else none
    | some (.grid rows) => match w with
      | .own b => match O b with
        | some (.lst us) => if rows.length < 1000 then (yM us).map fun ds => updO (del O b) a (.grid (rows ++ [ds])) else none
        | _ => none
      | _ => none
    | _ => none
  | _ => none
noncomputable def V1 : W → List W → OM → WK → Prop := fun x ws O R => ∃ w O1, ws = [w] ∧ Z4 O x w = some O1 ∧ R (.d .none) O1
theorem Kt {T : String} : RefM K T VS V1 := by
  rintro Γ O H x v xs vs S rx rs Q R ⟨w, O1, rfl, e, h⟩ k
  cases rs with
  | cons rw t =>
    cases t
    rename_i u
    cases x with
    | d _ => cases e
    | row _ _ => cases e
    | own a =>
      cases (show v = .ref a from rx)
      simp only [Z4] at e
      split at e
      · rename_i ws ho
        split at e
        · rename_i hl
          cases e
          obtain ⟨_, us, q1, q2⟩ := S.o _ _ ho
          refine ⟨a, us, u, rfl, rfl, q1, by rw [← Paired.length q2]; exact ve (by omega), ?_⟩
          exact k _ _ _ _ _ (Le.refl _) (S.put (oo := .lst _) ho (by intro _ h; cases h) (by intro _ h; cases h) ⟨_, zx, Paired.appP q2 (.cons rw .nil)⟩) uu h
        · cases e
      · rename_i rows ho
        split at e
        · rename_i b
          cases (show u = .ref b from rw)
          split at e
          · rename_i us hb
            split at e
            · rename_i hl
              cases hd : yM us with
              | none => rw [hd] at e; cases e
              | some ds =>
                rw [hd] at e
                cases e
                rw [x0 hd] at hb
                obtain ⟨_, rs, hg, _⟩ := S.o _ _ ho
                obtain ⟨q1, q2, Γ', l', S'⟩ := S.absorb ho hg hb
                refine ⟨a, _, .ref b, rfl, rfl, q1, by rw [List.length_map, q2]; exact ve (by omega), ?_⟩
                exact k _ _ _ _ _ l' S' uu h
            · cases e
          · cases e
        · cases e
      · cases e
noncomputable def V2 : W → List W → OM → WK → Prop := fun x ws O R => ∃ a b kvs more, x = .own a ∧ ws = [.own b] ∧ O a = some (.dK kvs) ∧ O b = some (.dK more) ∧ a ≠ b ∧ kvs.length + more.length ≤ 1000 ∧ R (.d .none) (updO O a (.dK (uf kvs more)))
theorem Ku {T : String} : RefM K T VY V2 := by
  rintro Γ O H x v xs vs S rx rs Q R ⟨a, b, kvs, more, rfl, rfl, ho, hb, hne, hl, h⟩ k
  cases rs with
  | cons rw t =>
    cases t
    cases (show v = .ref a from rx)
    obtain ⟨_, vs, q1, q2⟩ := S.o _ _ ho
    obtain ⟨_, us, p1, p2⟩ := S.o _ _ hb
    refine ⟨a, b, vs, us, rfl, by rw [show _ = V.ref b from rw], q1, p1, hne, by rw [← Paired.length q2, ← Paired.length p2]; exact hl, ?_⟩
    exact k _ _ _ _ _ (Le.refl _) (S.put (oo := .dK _) ho (by intro _ h; cases h) (by intro _ h; cases h) ⟨_, zx, qa p2 q2⟩) uu h
end
end L2
namespace L2
open PySem PySem.Spec PyProof.Rows
section
variable {K : PySem.W.Frag}
noncomputable def zay (t : TA) : TE := ZT t
theorem V3 {X : Cx} {es : List Expr} {t : TA} {pos : Pos} (h : QA X es t) : PE X (.List es pos) (zay t) := Xc h.pa
noncomputable def zaz (T : TAW) : TEW := fun ρ O R => T ρ O fun ws O1 => ws.length ≤ 1000 ∧ ∀ p, O1 p = none → R (.own p) (updO O1 p (.lst ws))
theorem Kv {t : TA} {T : TAW} (h : xF K t T) : RefE K (zay t) (zaz T) := by
  intro Γ O H ρ σ S r0 Q R hT k
  refine h Γ O H ρ σ S r0 _ _ hT fun Γ1 O1 H1 ws vs l1 S1 rs h1 => ?_
  refine ⟨by rw [← Paired.length rs]; exact uv h1.1, fun p hp => ?_⟩
  obtain ⟨hO, S'⟩ := Z1 S1 rs hp
  exact k _ _ _ _ _ l1 S' xG (h1.2 p hO)
noncomputable def zaA : TE := ZT jq
theorem zbC {X : Cx} {pos : Pos} : PE X (.List [] pos) zaA := Xc qn.pa
noncomputable def zaB : TEW := fun ρ O R => ∀ p, O p = none → R (.own p) (updO O p (.grid []))
theorem Kw : RefE K zaA zaB := by
  intro Γ O H ρ σ S r0 Q R hT k
  refine ⟨Nat.zero_le _, fun p hp => ?_⟩
  obtain ⟨Γ', l', S'⟩ := S.newGrid hp
  exact k _ _ _ _ _ l' S' xG (hT p (S.free hp).2.1)
noncomputable def zcX (K : PySem.W.Frag) : List V → Hp → VK → Prop := rLo K
theorem zcY {X : Cx} (h : X.K = K) : y9 X (.type "list") (zcX K) := UF h
theorem zel : RefC K (rLo K) Xt := zbu
theorem zdS : RefC K (zcX K) Xu := zbv
noncomputable def zcZ (i j : Nat) (T : TAW) : TSW := fun D ρ O => T ρ O fun ws O1 => ∃ x y, ws = [x, y] ∧ D.nx ((ρ.set i (some x)).set j (some y)) O1
theorem Zo {Γ : Gh} {w : W} {v : V} (h : relW K Γ w v) : qD K Γ (some w) (some v) := h
theorem zbD {i j : Nat} {t : TA} {T : TAW} (h : xF K t T) : RefS K (zcb i j t) (zcZ i j T) := by
  intro Γ O H ρ σ D DW S r hT e
  refine h _ _ _ _ _ S r _ _ hT fun Γ1 O1 H1 ws vs l1 S1 rs h1 => ?_
  obtain ⟨x, y, rfl, h1⟩ := h1
  cases rs with
  | cons rx t => cases t with
    | cons ry t =>
      cases t
      exact ⟨_, _, rfl, e.nx _ _ _ _ _ l1 S1 (Paired.setP (Paired.setP (r.mono l1) (Zo rx)) (Zo ry)) h1⟩
noncomputable def wCs (vs : List V) : TAW := fun _ O R => R (vs.map ofV) O
theorem zc0 {vs : List V} (h : vs.all scV = true := by rfl) : xF K (tCs vs) (wCs vs) := fun Γ O H ρ σ S r Q R hT k => k _ _ _ _ _ (Le.refl _) S (kH h) hT
noncomputable def tyD : PyData → Option String
  | .none => some "NoneType"
  | .bool _ => some "bool"
  | .int _ => some "int"
  | .str _ => some "str"
  | _ => none
noncomputable def isI : String → String → Option Bool
  | "int", "int" => some true
  | "int", "bool" => some false
  | "int", "str" => some false
  | "bool", "int" => some true
  | "bool", "bool" => some true
  | "bool", "str" => some false
  | "str", "int" => some false
  | "str", "bool" => some false
  | "str", "str" => some true
  | "NoneType", "int" => some false
  | "NoneType", "bool" => some false
  | "NoneType", "str" => some false
  | _, _ => none
theorem zbE {a b : String} {c : Bool} (h : isI a b = some c) : PySem.W.kitOne K (.type a) (.type b) = some c := by
  unfold isI at h
  split at h <;> first | (cases h; rfl) | cases h
noncomputable def zc1 (K : PySem.W.Frag) : List V → Hp → VK → Prop := fun xs H Q => ∃ x n t b, xs = [x, .ty n] ∧ TyOf K H x t ∧ PySem.W.kitOne K t (.type n) = some b ∧ Q (.bl b) H
theorem jA {X : Cx} (h : X.K = K) : y9 X (.builtin "isinstance") (zc1 K) := by subst h; exact Vp
noncomputable def Kx (n : String) (Ta : TEW) : TEW := fun ρ O R => Ta ρ O fun x O1 => ∃ d s b, x = .d d ∧ tyD d = some s ∧ isI s n = some b ∧ R (.d (.bool b)) O1
theorem zbF {n : String} {ta : TE} {Ta : TEW} (h : RefE K ta Ta) : RefE K (tCB (zc1 K) (j4 ta (j4 (tC (.ty n)) jq))) (Kx n Ta) := by
  intro Γ O H ρ σ S r Q R hT k
  refine h _ _ _ _ _ S r _ _ hT fun Γ1 O1 H1 x v l1 S1 rx h1 => ?_
  obtain ⟨d, s, b, rfl, e1, e2, h1⟩ := h1
  have ty : TyOf K H1 v (.type s) := by
    cases d <;> simp [tyD] at e1
    · subst e1; rw [show v = _ from rx]; exact .non
    · subst e1; rw [show v = _ from rx]; exact .bl _
    · subst e1; rw [show v = _ from rx]; exact .int _
    · subst e1; rw [show v = _ from rx]; exact .str _
  exact ⟨v, n, _, b, rfl, ty, zbE e2, k _ _ _ _ _ l1 S1 ue h1⟩
noncomputable abbrev TOW := WS → OM → (Option Int → OM → Prop) → Prop
noncomputable def UW (K : PySem.W.Frag) (t : TO) (T : TOW) : Prop := ∀ Γ O H ρ σ, Sim K Γ O H → relR K Γ ρ σ → ∀ (Q : Option Int → Hp → Prop) (R : Option Int → OM → Prop), T ρ O R → (∀ Γ' O' H' b, Le Γ Γ' → Sim K Γ' O' H' → R b O' → Q b H') → t σ H Q
noncomputable def V4 : TOW := fun _ O R => R none O
noncomputable def zaC (T : TEW) : TOW := fun ρ O R => T ρ O fun x O1 => ∃ i, x = .d (.int i) ∧ R (some i) O1
theorem UX : UW K VO V4 := fun Γ O H ρ σ S r Q R hT k => k _ _ _ _ (Le.refl _) S hT
theorem Ky {t : TE} {T : TEW} (h : RefE K t T) : UW K (zad t) (zaC T) := by
  intro Γ O H ρ σ S r Q R hT k
  refine h _ _ _ _ _ S r _ _ hT fun Γ1 O1 H1 x v l1 S1 rx h1 => ?_
  obtain ⟨i, rfl, h1⟩ := h1
  exact ⟨i, rx, k _ _ _ _ l1 S1 h1⟩
noncomputable def qH {α : Type} (xs : List α) (lo hi : Option Int) : List α := (xs.drop (HT.sIx xs.length 0 lo)).take (HT.sIx xs.length xs.length hi - HT.sIx xs.length 0 lo)
theorem Kz {Z : Hp} {ds : List PyData} {vs : List V} (h : Reps K Z ds vs) (lo hi : Option Int) : Reps K Z (qH ds lo hi) (ZU vs lo hi) := by
  have hp : relWs K ⟨Z, fun _ => none, fun _ => none⟩ (ds.map .d) vs := yZ h
  have hl := Reps.length h
  have := Paired.takeP (Paired.dropP hp (HT.sIx vs.length 0 lo)) (HT.sIx vs.length vs.length hi - HT.sIx vs.length 0 lo)
  rw [← List.map_drop, ← List.map_take] at this
  unfold qH ZU
  rw [hl]
  exact yy this
noncomputable def zc2 (Te : TEW) (Tl Th : TOW) : TEW := fun ρ O R => Te ρ O fun x O1 => Tl ρ O1 fun l O2 => Th ρ O2 fun u O3 => ∃ ws ds, yR O3 x = some ws ∧ yM ws = some ds ∧ R (.d (.list (qH ds l u))) O3
theorem zbG {te : TE} {tl th : TO} {Te : TEW} {Tl Th : TOW} (he : RefE K te Te) (hl : UW K tl Tl) (hh : UW K th Th) : RefE K (tSl (JW K) te tl th) (zc2 Te Tl Th) := by
  intro Γ O H ρ σ S r Q R hT k
  refine he _ _ _ _ _ S r _ _ hT fun Γ1 O1 H1 x v l1 S1 rx h1 => ?_
  refine hl _ _ _ _ _ S1 (r.mono l1) _ _ h1 fun Γ2 O2 H2 l l2 S2 h2 => ?_
  refine hh _ _ _ _ _ S2 (r.mono (l1.trans l2)) _ _ h2 fun Γ3 O3 H3 u l3 S3 h3 => ?_
  obtain ⟨ws, ds, e1, e2, h3⟩ := h3
  obtain ⟨a, vs, rfl, q1, q2⟩ := xy S3 ((rx.mono l2).mono l3) e1
  rw [x0 e2] at q2
  refine ⟨a, vs, rfl, q1, fun p hp => ?_⟩
  obtain ⟨Γ', l', S', r'⟩ := uC S3 (Kz (yy q2) l u) hp
  exact k _ _ _ _ _ (((l1.trans l2).trans l3).trans l') S' r' h3
noncomputable def zc3 : R2W := fun x y O R => ∃ ws us ds es, yR O x = some ws ∧ yR O y = some us ∧ yM ws = some ds ∧ yM us = some es ∧ ds.length + es.length ≤ 1000 ∧ R (.d (.list (ds ++ es))) O
theorem uD {Z : Hp} : ∀ {ds es : List PyData} {vs us : List V}, Reps K Z ds vs → Reps K Z es us → Reps K Z (ds ++ es) (vs ++ us)
  | [], _, _, _, h, g => by rw [show _ = [] from h]; exact g
  | d :: ds, _, _, _, h, g => by
    obtain ⟨x, r, rfl, h1, h2⟩ := h
    exact ⟨x, _, rfl, h1, uD h2 g⟩
theorem zdT : RefR K (J3 K) zc3 := by
  rintro Γ O H x y v u S rx ry Q R ⟨ws, us, ds, es, e1, e2, e3, e4, hl, h⟩ k
  obtain ⟨a, vs, rfl, q1, q2⟩ := xy S rx e1
  obtain ⟨b, zs, rfl, p1, p2⟩ := xy S ry e2
  rw [x0 e3] at q2
  rw [x0 e4] at p2
  have q3 := yy q2
  have p3 := yy p2
  refine ⟨a, b, vs, zs, rfl, rfl, q1, p1, by rw [← Reps.length q3, ← Reps.length p3]; exact uv hl, fun p hp => ?_⟩
  obtain ⟨Γ', l', S', r'⟩ := uC S (uD q3 p3) hp
  exact k _ _ _ _ _ l' S' r' h
noncomputable def wIn (neg : Bool) : R2W := fun x y O R => ∃ d ds, x = .d d ∧ ui O y = some ds ∧ scD d = true ∧ ds.all scD = true ∧ R (.d (.bool (if neg then !inV (vOf d) (ds.map vOf) else inV (vOf d) (ds.map vOf)))) O
theorem V5 {Z : Hp} : ∀ {ds : List PyData} {vs : List V}, Reps K Z ds vs → ds.all scD = true → vs = ds.map vOf
  | [], _, h, _ => h
  | d :: ds, _, h, a => by
    obtain ⟨x, r, rfl, h1, h2⟩ := h
    simp at a
    rw [Zk h1 a.1, V5 h2 (by simpa using a.2)]
    rfl
theorem V6 {d : PyData} (h : scD d = true) : uq (vOf d) = true := by cases d <;> first | rfl | simp [scD] at h
noncomputable def zc4 (K : PySem.W.Frag) (neg : Bool) : R2 := rIn K neg
theorem zdU {X : Cx} (h : X.K = K) : OpR X (compareOp .In) (zc4 K false) := by subst h; exact QS
theorem zem {neg : Bool} : RefR K (zc4 K neg) (wIn neg) := by
  rintro Γ O H x y v u S rx ry Q R ⟨d, ds, rfl, e, h1, h2, h⟩ k
  obtain ⟨a, vs, rfl, q1, q2⟩ := Z2 S ry e
  have hv := Zk rx h1
  have hvs := V5 q2 h2
  subst hv hvs
  refine ⟨a, _, rfl, q1, V6 h1, ?_, k _ _ _ _ _ (Le.refl _) S ue h⟩
  rw [List.all_map]
  simp only [List.all_eq_true] at h2 ⊢
  exact fun z hz => V6 (h2 z hz)
noncomputable def zaD : R2W := fun x y O R => ∃ i j, x = .d (.str i) ∧ y = .d (.str j) ∧ i.length + j.length ≤ sizeLine ∧ R (.d (.str (i ++ j))) O
theorem zc5 : RefR K (fun x y H Q => ∃ i j, x = .str i ∧ y = .str j ∧ i.length + j.length ≤ sizeLine ∧ Q (.str (i ++ j)) H) zaD := by
  rintro Γ O H x y v u S rx ry Q R ⟨i, j, rfl, rfl, hl, h⟩ k
  exact ⟨i, j, rx, ry, hl, k _ _ _ _ _ (Le.refl _) S VZ h⟩
end
end L2
namespace L2
open PySem PySem.Spec PyProof.Rows
section
variable {K : PySem.W.Frag}
theorem Sim.unframeO {Γ : Gh} {O : OM} {H : Hp} (S : Sim K Γ O H) {a : Addr} {ds : List PyData} {vs : List V} {F : Hp} (hF : Γ.F = upd F a (.lst vs)) (h0 : F a = none) (hr : Reps K Γ.Z ds vs) :
    O a = none ∧ Sim K ⟨Γ.Z, Γ.G, F⟩ (updO O a (.lst (ds.map .d))) H := by
  have hFa : Γ.F a = some (.lst vs) := by rw [hF, zx]
  obtain ⟨hz, hO, hrow⟩ := S.fd _ _ hFa
  have kF : ∀ b o, F b = some o → b ≠ a ∧ Γ.F b = some o := fun b o e => by
    have hb : b ≠ a := fun z => by rw [z, h0] at e; cases e
    exact ⟨hb, by rw [hF, zj hb]; exact e⟩
  have k1 : ∀ {x : Addr} {rx : List (List PyData)}, updO O a (.lst (ds.map .d)) x = some (.grid rx) → O x = some (.grid rx) := fun {x rx} h => by
    by_cases hx : x = a
    · subst hx; rw [zl] at h; cases h
    · rw [zg hx] at h; exact h
  refine ⟨hO, ⟨S.z, fun b oo e => ?_, S.gd, fun b u e => S.f _ _ (kF b u e).2, fun b oo e hn => ?_, fun b o e => S.fg b o (kF b o e).2, fun b o e => ⟨(S.fd b o (kF b o e).2).1, by rw [zg (kF b o e).1]; exact (S.fd b o (kF b o e).2).2.1, fun c rows rs e1 => (S.fd b o (kF b o e).2).2.2 c rows rs (k1 e1)⟩, fun x y ra rb rs ss r e1 e2 => S.u x y ra rb rs ss r (k1 e1) (k1 e2)⟩⟩
  · by_cases hb : b = a
    · subst hb
      rw [zl] at e
      cases e
      exact ⟨hz, vs, S.f _ _ hFa, yZ hr⟩
    · rw [zg hb] at e
      obtain ⟨q1, q2⟩ := S.o _ _ e
      refine ⟨q1, (q2.keep (Le.refl _) rfl rfl fun rs r hg ⟨rows, hrw⟩ hm => ⟨rfl, rfl, ?_⟩).setF⟩
      subst hrw
      exact zg (fun z => hrow b rows rs e hg (by rw [← z]; exact hm))
  · by_cases hb : b = a
    · rw [hb]; exact S.fg _ _ hFa
    · rw [zg hb] at e; exact S.gn b oo e hn
noncomputable def zc6 (wi : TI) (n : Nat) (js : List Nat) (g : TG) (tt : TT) (te : TE) : TE := tLc wi n js g tt te
noncomputable def KA (wi : TI) (n : Nat) (js : List Nat) (g : TG) (tt : TT) (te : TE) : TE := tLc wi n js g tt te
section
variable {X : Cx} {N : List Str} {n : Nat} {js : List Nat} {scope : Scope} {cl : List (Str × Addr)} {elt tg iter : Expr} {ifs : List Expr} {pos : Pos} {wi : TI} {g : TG} {tt : TT} {te : TE}
theorem zc7 (L : LcOk X N n js scope cl) (hc : X.calm = true) (hi : PI X tg iter wi)
    (hg : ∀ C s0 H0 fp0, PG (xg X N scope cl C s0 H0 fp0) tg g) (ht : ∀ C s0 H0 fp0, PTs (xg X N scope cl C s0 H0 fp0) ifs tt) (he : ∀ C s0 H0 fp0, PE (xg X N scope cl C s0 H0 fp0) elt te)
    (hs : ∀ x, foldedSetIterable iter X.env x = pure x := by intro _; rfl) : PE X (.ListComp elt [⟨tg, iter, ifs, 0⟩] scope pos) (zc6 wi n js g tt te) := uW L hc hi hg ht he hs
theorem zc8 (L : LcOk X N n js scope cl) (hc : X.calm = true) (hi : PI X tg iter wi)
    (hg : ∀ C s0 H0 fp0, PG (xg X N scope cl C s0 H0 fp0) tg g) (ht : ∀ C s0 H0 fp0, PTs (xg X N scope cl C s0 H0 fp0) ifs tt) (he : ∀ C s0 H0 fp0, PE (xg X N scope cl C s0 H0 fp0) elt te)
    (hs : ∀ x, foldedSetIterable iter X.env x = pure x := by intro _; rfl) : PE X (.ListComp elt [⟨tg, iter, ifs, 0⟩] scope pos) (KA wi n js g tt te) := uW L hc hi hg ht he hs
theorem Je {i : Nat} {x : Str} {pos' spos : Pos} (hN : X.N.Nodup) (hx : X.N[i]? = some x) (hk : X.env.scope.names.lookup x = some .local) (L : LcOk X N n js scope cl) (hc : X.calm = true) (hi : PI X tg iter wi)
    (hg : ∀ C s0 H0 fp0, PG (xg X N scope cl C s0 H0 fp0) tg g) (ht : ∀ C s0 H0 fp0, PTs (xg X N scope cl C s0 H0 fp0) ifs tt) (he : ∀ C s0 H0 fp0, PE (xg X N scope cl C s0 H0 fp0) elt te)
    (hsw : swapsWith (.ListComp elt [⟨tg, iter, ifs, 0⟩] scope pos) (some (.Name x pos')) spos.line X.env = pure true := by rfl)
    (hs : ∀ x, foldedSetIterable iter X.env x = pure x := by intro _; rfl) : PS X (.Assign [.Name x pos'] (.ListComp elt [⟨tg, iter, ifs, 0⟩] scope pos) spos) (ZR (KA wi n js g tt te) (jX i)) := Xj hN hx hk L hc hi hg ht he hsw hs
end
noncomputable def zc9 (Wi : TIW) (n : Nat) (js : List Nat) (G : TGW) (T : TTW) (E : TEW) : TEW := fun ρ O R => Wi ρ O fun ws keep O1 => keep O1 ∧ ws.length ≤ 1000 ∧ ∃ F : W → Option PyData,
  (∀ w ∈ ws, ∀ us : WS, us.length = n → YQ G T E n (xx js ρ) w (us ++ xx js ρ) O1 fun y O2 => O2 = O1 ∧ y = (F w).map .d) ∧ ∀ p, O1 p = none → R (.own p) (updO O1 p (.lst ((ws.filterMap F).map .d)))
theorem zbH {wi : TI} {Wi : TIW} {n : Nat} {js : List Nat} {g : TG} {G : TGW} {tt : TT} {T : TTW} {te : TE} {E : TEW} (hi : qG K wi Wi) (hg : RefG K g G) (ht : xP K tt T) (he : RefE K te E) : RefE K (zc6 wi n js g tt te) (zc9 Wi n js G T E) := by
  intro Γ O H ρ σ S r Q R hT k
  refine hi _ _ _ _ _ S r _ _ hT fun Γ1 O1 H1 J ws keep l1 S1 ok h1 => ?_
  obtain ⟨hk, hlen, F, hF, hR⟩ := h1
  intro D hD
  have hFD : Γ1.F D = none := S1.f.free hD
  have hOD := (S1.free hD).2.1
  have r1 := jz (r.mono l1) n js
  refine ⟨fun i m σ' H' => i ≤ ws.length ∧ m = ws.length - i ∧ ∃ Γ' ρ' vs, Same Γ1.Z Γ'.Z ∧ (∀ a rs, Γ1.G a = some rs → ∃ more, Γ'.G a = some (rs ++ more)) ∧ Γ'.F = upd Γ1.F D (.lst vs) ∧ Sim K Γ' O1 H' ∧ relR K Γ' ρ' σ' ∧
    ρ'.length = n + (xx js ρ).length ∧ ρ'.drop n = xx js ρ ∧ Reps K Γ'.Z ((ws.take i).filterMap F) vs, ⟨_, Nat.zero_le _, rfl, _, _, [], Same.refl _, fun a rs h => ⟨[], by rw [List.append_nil]; exact h⟩, rfl, S1.frameNew hD (.lst []), r1.setF, by simp, by simp, rfl⟩, ?_⟩
  rintro i m σ' H' ⟨hi, rfl, Γ', ρ', vs, z', g', f', S', r', n1, n2, rp⟩
  obtain ⟨ok1, ok2⟩ := ok i Γ' O1 H' z' g' S' hk
  have hvl : vs.length ≤ i := by
    rw [← Reps.length rp]
    exact Nat.le_trans (List.length_filterMap_le _ _) (by rw [List.length_take]; omega)
  by_cases hlt : i < ws.length
  · obtain ⟨go, y⟩ := ok1 _ (List.getElem?_eq_getElem hlt)
    refine .inr ⟨go, fun σ2 H2 => ∃ Γ2 ρ2 vs2, Same Γ1.Z Γ2.Z ∧ (∀ a rs, Γ1.G a = some rs → ∃ more, Γ2.G a = some (rs ++ more)) ∧ Γ2.F = upd Γ1.F D (.lst vs2) ∧ Sim K Γ2 O1 H2 ∧ relR K Γ2 ρ2 σ2 ∧
      ρ2.length = n + (xx js ρ).length ∧ ρ2.drop n = xx js ρ ∧ Reps K Γ2.Z ((ws.take (i + 1)).filterMap F) vs2, fun σ2 H2 h => ⟨ws.length - (i + 1), by omega, hlt, rfl, h⟩, fun x H2 hy => ?_⟩
    obtain ⟨Γ2, l2, S2, rx⟩ := y x H2 hy
    obtain ⟨us, hus, rfl⟩ := kI n1 n2
    have et : ws.take (i + 1) = ws.take i ++ [ws[i]] := (List.take_append_getElem hlt).symm
    refine hg _ _ _ _ _ _ _ S2 (r'.mono l2) rx _ _ (hF _ (List.getElem_mem hlt) us hus) fun Γ3 O3 H3 ρ3 σ3 l3 S3 r3 h3 => ?_
    obtain ⟨⟨m1, m2⟩, h3⟩ := h3
    refine ht _ _ _ _ _ S3 r3 _ _ h3 fun Γ4 O4 H4 b l4 S4 h4 => ?_
    have l24 := (l2.trans l3).trans l4
    have up : ∀ Γ5, Le Γ' Γ5 → Same Γ1.Z Γ5.Z ∧ (∀ a rs, Γ1.G a = some rs → ∃ more, Γ5.G a = some (rs ++ more)) := fun Γ5 l => ⟨z'.trans l.z, fun a rs h => by
      obtain ⟨m, e⟩ := g' a rs h
      obtain ⟨m2, e2⟩ := l.g a _ e
      exact ⟨m ++ m2, by rw [← List.append_assoc]; exact e2⟩⟩
    cases b with
    | true =>
      rw [if_pos rfl] at h4 ⊢
      refine he _ _ _ _ _ S4 (r3.mono l4) _ _ h4 fun Γ5 O5 H5 w5 v5 l5 S5 r5 h5 => ?_
      obtain ⟨rfl, h5⟩ := h5
      have l25 := l24.trans l5
      cases hFw : F ws[i] with
      | none => rw [hFw] at h5; cases h5
      | some d =>
        rw [hFw] at h5
        cases h5
        have f5 : Γ5.F = upd Γ1.F D (.lst vs) := by rw [l25.f, f']
        have fD : Γ5.F D = some (.lst vs) := by rw [f5, zx]
        refine ⟨vs, S5.f _ _ fD, ve (by omega), ?_⟩
        obtain ⟨u1, u2⟩ := up Γ5 l25
        refine ⟨⟨Γ5.Z, Γ5.G, upd Γ5.F D (.lst (vs ++ [v5]))⟩, ρ3, vs ++ [v5], u1, u2, ?_, S5.framePut fD _, ((r3.mono l4).mono l5).setF, m1, m2, ?_⟩
        · show upd Γ5.F D _ = _
          rw [f5, VM]
        · rw [et, List.filterMap_append]
          have : ([ws[i]] : List W).filterMap F = [d] := by simp [hFw]
          rw [this]
          exact Reps.snoc (Reps.same l25.z _ _ rp) r5
    | false =>
      rw [if_neg (by decide)] at h4 ⊢
      obtain ⟨rfl, h4⟩ := h4
      obtain ⟨u1, u2⟩ := up Γ4 l24
      refine ⟨Γ4, ρ3, vs, u1, u2, by rw [l24.f, f'], S4, r3.mono l4, m1, m2, ?_⟩
      cases hFw : F ws[i] with
      | some d => rw [hFw] at h4; cases h4
      | none =>
        rw [et, List.filterMap_append]
        have : ([ws[i]] : List W).filterMap F = [] := by simp [hFw]
        rw [this, List.append_nil]
        exact Reps.same l24.z _ _ rp
  · have hi2 : i = ws.length := by omega
    subst hi2
    refine .inl ⟨ok2 rfl, ?_⟩
    rw [List.take_length] at rp
    obtain ⟨q1, q2⟩ := S'.unframeO f' hFD rp
    exact k ⟨Γ'.Z, Γ'.G, Γ1.F⟩ _ _ _ _ (l1.trans ⟨rfl, z', g'⟩) q2 xG (hR D hOD)
noncomputable def zda (Wi : TIW) (n : Nat) (js : List Nat) (G : TGW) (T : TTW) (E : TEW) : TEW := fun ρ O R => Wi ρ O fun ws keep O1 => keep O1 ∧ ws.length ≤ 1000 ∧ ∃ F : W → List PyData,
  (∀ w ∈ ws, ∀ us : WS, us.length = n → YQ G T E n (xx js ρ) w (us ++ xx js ρ) O1 fun y O2 => ∃ b, O1 b = none ∧ y = some (.own b) ∧ O2 = updO O1 b (.lst ((F w).map .d))) ∧ ∀ p, O1 p = none → R (.own p) (updO O1 p (.grid (ws.map F)))
theorem zbI {wi : TI} {Wi : TIW} {n : Nat} {js : List Nat} {g : TG} {G : TGW} {tt : TT} {T : TTW} {te : TE} {E : TEW} (hi : qG K wi Wi) (hg : RefG K g G) (ht : xP K tt T) (he : RefE K te E) : RefE K (KA wi n js g tt te) (zda Wi n js G T E) := by
  intro Γ O H ρ σ S r Q R hT k
  refine hi _ _ _ _ _ S r _ _ hT fun Γ1 O1 H1 J ws keep l1 S1 ok h1 => ?_
  obtain ⟨hk, hlen, F, hF, hR⟩ := h1
  intro D hD
  have hFD : Γ1.F D = none := S1.f.free hD
  have hOD := (S1.free hD).2.1
  have r1 := jz (r.mono l1) n js
  refine ⟨fun i m σ' H' => i ≤ ws.length ∧ m = ws.length - i ∧ ∃ Γ' ρ', ∃ rs : List Addr, Same Γ1.Z Γ'.Z ∧ (∀ a rs, Γ1.G a = some rs → ∃ more, Γ'.G a = some (rs ++ more)) ∧ Sim K Γ' O1 H' ∧ relR K Γ' ρ' σ' ∧
    (ρ'.length = n + (xx js ρ).length ∧ ρ'.drop n = xx js ρ) ∧ Γ'.F D = some (.lst (rs.map V.ref)) ∧ rs.Nodup ∧ D ∉ rs ∧ rs.length = i ∧
    (∀ (j : Nat) (q : Addr), rs[j]? = some q → Γ1.F q = none ∧ ∃ vs w, Γ'.F q = some (.lst vs) ∧ ws[j]? = some w ∧ Reps K Γ'.Z (F w) vs) ∧ ∀ x, x ≠ D → x ∉ rs → Γ'.F x = Γ1.F x,
    ⟨_, Nat.zero_le _, rfl, ⟨Γ1.Z, Γ1.G, upd Γ1.F D (.lst [])⟩, _, [], Same.refl _, fun a rs h => ⟨[], by rw [List.append_nil]; exact h⟩, S1.frameNew hD (.lst []), r1.setF, ⟨by simp, by simp⟩, zx, .nil, by simp, rfl, by simp, fun x hx _ => zj hx⟩, ?_⟩
  rintro i m σ' H' ⟨hi, rfl, Γ', ρ', rs, z', g', S', r', ⟨n1, n2⟩, fD, nd, nD, hl, hrow, hrest⟩
  obtain ⟨ok1, ok2⟩ := ok i Γ' O1 H' z' g' S' hk
  by_cases hlt : i < ws.length
  · obtain ⟨go, y⟩ := ok1 _ (List.getElem?_eq_getElem hlt)
    refine .inr ⟨go, fun σ' H' => ∃ Γ' ρ', ∃ rs : List Addr, Same Γ1.Z Γ'.Z ∧ (∀ a rs, Γ1.G a = some rs → ∃ more, Γ'.G a = some (rs ++ more)) ∧ Sim K Γ' O1 H' ∧ relR K Γ' ρ' σ' ∧
      (ρ'.length = n + (xx js ρ).length ∧ ρ'.drop n = xx js ρ) ∧ Γ'.F D = some (.lst (rs.map V.ref)) ∧ rs.Nodup ∧ D ∉ rs ∧ rs.length = i + 1 ∧
      (∀ (j : Nat) (q : Addr), rs[j]? = some q → Γ1.F q = none ∧ ∃ vs w, Γ'.F q = some (.lst vs) ∧ ws[j]? = some w ∧ Reps K Γ'.Z (F w) vs) ∧ ∀ x, x ≠ D → x ∉ rs → Γ'.F x = Γ1.F x, fun σ2 H2 h => ⟨ws.length - (i + 1), by omega, hlt, rfl, h⟩, fun x H2 hy => ?_⟩
    obtain ⟨Γ2, l2, S2, rx⟩ := y x H2 hy
    obtain ⟨us, hus, rfl⟩ := kI n1 n2
    refine hg _ _ _ _ _ _ _ S2 (r'.mono l2) rx _ _ (hF _ (List.getElem_mem hlt) us hus) fun Γ3 O3 H3 ρ3 σ3 l3 S3 r3 h3 => ?_
    obtain ⟨⟨m1, m2⟩, h3⟩ := h3
    refine ht _ _ _ _ _ S3 r3 _ _ h3 fun Γ4 O4 H4 b l4 S4 h4 => ?_
    have l24 := (l2.trans l3).trans l4
    cases b with
    | false =>
      rw [if_neg (by decide)] at h4
      obtain ⟨_, _, h, _⟩ := h4
      cases h
    | true =>
      rw [if_pos rfl] at h4 ⊢
      refine he _ _ _ _ _ S4 (r3.mono l4) _ _ h4 fun Γ5 O5 H5 w5 v5 l5 S5 r5 h5 => ?_
      obtain ⟨b, hb0, hw, rfl⟩ := h5
      cases hw
      cases (show v5 = .ref b from r5)
      have l25 := l24.trans l5
      have f5 : Γ5.F = Γ'.F := l25.f
      have hOb : updO O1 b (.lst ((F ws[i]).map .d)) b = some (.lst ((F ws[i]).map .d)) := zl
      have Fb : Γ5.F b = none := by
        cases e : Γ5.F b with
        | none => rfl
        | some o => have := (S5.fd _ _ e).2.1; rw [hOb] at this; cases this
      have bD : b ≠ D := fun e => by rw [e, f5, fD] at Fb; cases Fb
      have brs : b ∉ rs := fun m => by
        obtain ⟨j, hj, e⟩ := List.mem_iff_getElem.mp m
        obtain ⟨_, vs, w, q, _⟩ := hrow j b (by rw [List.getElem?_eq_getElem hj, e])
        rw [f5, q] at Fb; cases Fb
      have F1b : Γ1.F b = none := by rw [← hrest b bD brs, ← f5]; exact Fb
      obtain ⟨vb, hb1, hb2, S6⟩ := S5.frameOwn hOb
      have hdel : del (updO O1 b (.lst ((F ws[i]).map .d))) b = O1 := by
        funext c
        by_cases hc : c = b
        · rw [hc, xv, hb0]
        · rw [xI hc, zg hc]
      rw [hdel] at S6
      have F6D : (⟨Γ5.Z, Γ5.G, upd Γ5.F b (.lst vb)⟩ : Gh).F D = some (.lst (rs.map V.ref)) := by
        show upd Γ5.F b _ D = _
        rw [zj (Ne.symm bD), f5]; exact fD
      have S7 := S6.framePut F6D (.lst (rs.map V.ref ++ [.ref b]))
      refine ⟨rs.map V.ref, S6.f _ _ F6D, ve (by rw [List.length_map]; omega), ?_⟩
      refine ⟨⟨Γ5.Z, Γ5.G, upd (upd Γ5.F b (.lst vb)) D (.lst (rs.map V.ref ++ [.ref b]))⟩, ρ3, rs ++ [b], z'.trans l25.z, fun a ss h => ?_, S7, (((r3.mono l4).mono l5).setF).setF, ⟨m1, m2⟩, ?_, ?_, ?_, by simp [hl], fun j q e => ?_, fun x hx hxr => ?_⟩
      · obtain ⟨m, e⟩ := g' a ss h
        obtain ⟨m2, e2⟩ := l25.g a _ e
        exact ⟨m ++ m2, by rw [← List.append_assoc]; exact e2⟩
      · rw [List.map_append]; exact zx
      · rw [List.nodup_append]
        exact ⟨nd, by simp, fun u hu v hv => by simp at hv; subst hv; exact fun z => brs (by rw [← z]; exact hu)⟩
      · simp [nD]; exact fun e => bD e.symm
      · by_cases hj : j < rs.length
        · rw [List.getElem?_append_left hj] at e
          obtain ⟨q1, vs, w, q2, q3, q4⟩ := hrow j q e
          have hqb : q ≠ b := fun z => brs (by rw [← z]; exact List.mem_of_getElem? e)
          have hqD : q ≠ D := fun z => nD (by rw [← z]; exact List.mem_of_getElem? e)
          refine ⟨q1, vs, w, ?_, q3, Reps.same l25.z _ _ q4⟩
          show upd (upd Γ5.F b _) D _ q = _
          rw [zj hqD, zj hqb, f5]; exact q2
        · have hj2 : j = rs.length := by
            have := (List.getElem?_eq_some_iff.mp e).1
            simp at this; omega
          subst hj2
          rw [List.getElem?_append_right (Nat.le_refl _)] at e
          simp at e
          subst e
          refine ⟨F1b, vb, ws[i], ?_, by rw [hl]; exact List.getElem?_eq_getElem hlt, yy (Γ := Γ5) hb2⟩
          show upd (upd Γ5.F b _) D _ b = _
          rw [zj bD, zx]
      · have hxb : x ≠ b := fun z => hxr (by rw [z]; simp)
        show upd (upd Γ5.F b _) D _ x = _
        rw [zj hx, zj hxb, f5]
        exact hrest x hx fun m => hxr (by simp [m])
  · have hi2 : i = ws.length := by omega
    refine .inl ⟨ok2 hi2, ?_⟩
    obtain ⟨q1, G', q2, q3⟩ := S'.gridify (F := Γ1.F) (rows := ws.map F) hFD fD nd nD (by rw [List.length_map]; omega) (fun j q ds e1 e2 => by
      obtain ⟨y1, vs, w, y2, y3, y4⟩ := hrow j q e1
      rw [List.getElem?_map, y3] at e2
      cases e2
      exact ⟨y1, vs, y2, y4⟩) hrest
    exact k ⟨Γ'.Z, G', Γ1.F⟩ _ _ _ _ (l1.trans ⟨rfl, z', fun a ss h => by obtain ⟨m, e⟩ := g' a ss h; exact ⟨m, q2 _ _ e⟩⟩) q3 xG (hR D hOD)
end
end L2
namespace L2
open PySem PySem.Spec PyProof.Rows
section
variable {X : Cx} {K : PySem.W.Frag}
theorem zo {e : Expr} {ta : TE} {f : Str} {pos : Pos} (hK : X.K = K) (he : PE X e ta) (hb : attributeBase e f X.env (eval e X.env) = eval e X.env) : PE X (.Attribute e f pos) (JQ K ta f) := by
  subst hK; exact zch he hb
theorem yF {o value : Expr} {ta tv : TE} {f : Str} {pos pos' : Pos} (hK : X.K = K) (ha : PE X o ta) (hv : PE X value tv) (hs : swapsWith value (some (.Attribute o f pos')) pos.line X.env = pure false) : PS X (.Assign [.Attribute o f pos'] value pos) (JR K ta tv f) := by
  subst hK; exact zci ha hv hs
theorem uE (hK : X.K = K) : IxR X (JV K) := by subst hK; exact zcm
theorem vS {tg l : Expr} {tl : TE} (hK : X.K = K) (hl : PE X l tl) : PI X tg l (Ui K tl) := by subst hK; exact zaT hl
theorem Z5 {tg l : Expr} {tl : TE} (hK : X.K = K) (hl : PE X l tl) : PI X tg l (JJ K tl) := by subst hK; exact zcc hl
theorem V7 {es : List Expr} {k : Nat} {t : TGs} {n : Nat} {pos : Pos} (hK : X.K = K) (hc : X.calm = true) (h : PGs X es t)
    (hn : (assignEach es X.env).length = n := by rfl) (hst : (assignEach es X.env).findIdx? (·.1) = none := by rfl) : PG X (.Tuple es k pos) (JH K n t) := by subst hK; exact zca hc h hn hst
section
variable {T : String} {name : Str} {id : String} {r : V → List V → Hp → VK → Prop} {o e : Expr} {es : List Expr} {to : TE} {t : TA} {apos cpos : Pos}
theorem Zp (hK : X.K = K) (pa : PlainAttrs T) (slot : Slot T name id) (hty : typeOf (.builtin id) = pure (.type "method_descriptor")) (hm : MtR X id r) (ho : PE X o to) (ha : PA X (e :: es) t)
    (hbase : attributeBase o name X.env (eval o X.env) = eval o X.env := by rfl)
    (hfew : ((backTo cpos (starEach (e :: es) X.env)).all (fun x => !x.1) && (backToKw cpos (keywordEach [] X.env)).all (fun x => x.1.isSome) && decide ((e :: es).length + ([] : List Keyword).length + (if ([] : List Keyword).isEmpty then 0 else 1) < 30)) = true := by rfl)
    (hline : (apos.endLine == cpos.line) = true := by rfl) (hs : starEach (e :: es) X.env = (false, eval e X.env) :: starEach es X.env := by rfl) (hplain : (backTo cpos (starEach es X.env)).any (·.1) = false := by rfl) :
    PE X (.Call (.Attribute o name apos) (e :: es) [] cpos) (tBM K T r to t) := by subst hK; exact zdz pa slot hty hm ho ha hbase hfew hline hs hplain
end
noncomputable def zaE (K : PySem.W.Frag) : List V → Hp → VK → Prop := fun xs H Q => ∃ p ys, xs = [.ref p] ∧ (SqL K H p ys ∨ SqT K H p ys) ∧ Q (.int ys.length) H
theorem Jf (hK : X.K = K) : y9 X (.builtin "len") (zaE K) := by subst hK; exact Xg
theorem zdb : RefC K (zaE K) Ki := zdP
noncomputable def zaF (K : PySem.W.Frag) : List V → Hp → VK → Prop := fun xs H Q => ∃ p ys, xs = [.ref p] ∧ ((SqL K H p ys ∧ ∀ l, H l = none → Q (.ref l) (upd H l (.tup ys))) ∨ (SqT K H p ys ∧ Q (.ref p) H))
theorem zdc (hK : X.K = K) : y9 X (.type "tuple") (zaF K) := by subst hK; exact YC
theorem zdd : RefC K (zaF K) Xv := zbw
noncomputable def zaG (K : PySem.W.Frag) (ta : TE) : TT := fun σ H Q => ta σ H fun x H' => ∃ k, Xb K x H' k ∧ Q k H'
theorem Jg {a : Expr} {ta : TE} (hK : X.K = K) (ha : PE X a ta) (he : ∀ whole, isTrue a X.env whole = (do let v ← whole; standAt a.pos; holding [v] (truthy v))) : PT X a (zaG K ta) := by
  subst hK; exact JN ha he
theorem KB {t : TE} {T : TEW} (h : RefE K t T) : xP K (zaG K t) (Kd T) := zbq h
theorem zde (hK : X.K = K) (hu : X.A.units + 64 < cLine) : OpR X (compareOp .Eq) (JZ K) := by subst hK; exact zcs hu
theorem uF (hK : X.K = K) (hu : X.A.units + 64 < cLine) : OpR X (compareOp .NotEq) (J0 K) := by subst hK; exact zct hu
theorem V8 (hK : X.K = K) : OpR X (binaryOp .Add) (UA K) := by subst hK; exact za4
theorem zbJ : xP K zcq (fun _ O R => R true O) := fun Γ O H ρ σ S r Q R hT k => k _ _ _ _ (Le.refl _) S hT
end
section
variable {K : PySem.W.Frag}
noncomputable def zaH : R2W := fun x y O R => ∃ ds es, xA x = some ds ∧ xA y = some es ∧ ds ≠ [] ∧ ds.length + es.length ≤ 1000 ∧ R (.d (.tuple (ds ++ es))) O
theorem zbK {w : W} {ds : List PyData} (h : xA w = some ds) : w = .d (.tuple ds) := by
  cases w with
  | d x => cases x <;> simp [xA] at h; subst h; rfl
  | own _ => cases h
  | row _ _ => cases h
theorem zdf : RefR K (UA K) zaH := by
  rintro Γ O H x y v u S rx ry Q R ⟨ds, es, e1, e2, hne, hl, h⟩ k
  obtain ⟨a, vs, rfl, q1, q2⟩ := vm S rx e1
  obtain ⟨b, us, rfl, p1, p2⟩ := vm S ry e2
  have q3 := yy q2
  have p3 := yy p2
  have l1 := Reps.length q3
  have l2 := Reps.length p3
  refine ⟨a, b, vs, us, rfl, rfl, q1, p1, fun z => ?_, by rw [← l1, ← l2]; exact uv hl, ?_⟩
  · rw [z] at l1
    exact hne (List.eq_nil_of_length_eq_zero l1)
  · first
      | exact fun hz p hp => by
          obtain ⟨Γ', l', S', r'⟩ := jy S (uD q3 p3) hp
          exact k _ _ _ _ _ l' S' r' h
      | exact fun p hp => by
          obtain ⟨Γ', l', S', r'⟩ := jy S (uD q3 p3) hp
          exact k _ _ _ _ _ l' S' r' h
      | (refine ⟨fun hz => ?_, fun hz p hp => ?_⟩
         · subst hz
           have : es = [] := List.eq_nil_of_length_eq_zero l2
           subst this
           rw [List.append_nil] at h
           rw [zbK e1] at rx
           exact k _ _ _ _ _ (Le.refl _) S rx h
         · obtain ⟨Γ', l', S', r'⟩ := jy S (uD q3 p3) hp
           exact k _ _ _ _ _ l' S' r' h)
end
end L2
namespace L2
open PySem PySem.Spec PyProof.Rows
section
variable {K : PySem.W.Frag}
noncomputable def wCR (a : Addr) : TEW := fun _ O R => R (.own a) O
theorem zdg {a : Addr} : RefE K (tC (.ref a)) (wCR a) := fun Γ O H ρ σ S r Q R h k => k _ _ _ _ _ (Le.refl _) S xG h
noncomputable def zaI (K : PySem.W.Frag) (To : TEW) (T : TAW) : TEW := fun ρ O R => To ρ O fun x O1 => ∃ a D, x = .own a ∧ DK K a D ∧ T ρ O1 fun ws O2 => ∃ i d, ws = [.d (.int i), .d (.int d)] ∧ R (.d (.int ((xN D i).getD d))) O2
theorem KC {to : TE} {t : TA} {To : TEW} {T : TAW} (ho : RefE K to To) (h : xF K t T) : RefE K (UK K to t) (zaI K To T) := by
  intro Γ O H ρ σ S r Q R hT k
  refine ho _ _ _ _ _ S r _ _ hT fun Γ1 O1 H1 x v l1 S1 rx h1 => ?_
  obtain ⟨a, D, rfl, hd, h1⟩ := h1
  refine ⟨a, D, rx, hd, h _ _ _ _ _ S1 (r.mono l1) _ _ h1 fun Γ2 O2 H2 ws vs l2 S2 rs h2 => ?_⟩
  obtain ⟨i, d, rfl, h2⟩ := h2
  cases rs with
  | cons rx t => cases t with
    | cons ry t =>
      cases t
      exact ⟨i, d, by rw [show _ = V.int i from rx, show _ = V.int d from ry], k _ _ _ _ _ (l1.trans l2) S2 vQ h2⟩
theorem Xx {X : Cx} {o e : Expr} {es : List Expr} {to : TE} {t : TA} {apos cpos : Pos} (hK : X.K = K) (ho : PE X o to) (ha : PA X (e :: es) t)
    (hbase : attributeBase o "get" X.env (eval o X.env) = eval o X.env := by rfl)
    (hfew : ((backTo cpos (starEach (e :: es) X.env)).all (fun x => !x.1) && (backToKw cpos (keywordEach [] X.env)).all (fun x => x.1.isSome) && decide ((e :: es).length + ([] : List Keyword).length + (if ([] : List Keyword).isEmpty then 0 else 1) < 30)) = true := by rfl)
    (hline : (apos.endLine == cpos.line) = true := by rfl) (hs : starEach (e :: es) X.env = (false, eval e X.env) :: starEach es X.env := by rfl) (hplain : (backTo cpos (starEach es X.env)).any (·.1) = false := by rfl) :
    PE X (.Call (.Attribute o "get" apos) (e :: es) [] cpos) (UK K to t) := by subst hK; exact zbj ho ha hbase hfew hline hs hplain
theorem Jh {s : SpW} {t : TA} {T : TAW} (h : xF K t T) : RefE K (j6 (zd K s) [] E0 t) (j9 s [] T) := Xs h
theorem Ji {s : SpW} {i : Int} {t : TA} {T : TAW} (h : xF K t T) : RefE K (j6 (zd K s) [.int i] E0 t) (j9 s [.int i] T) := Xs h
theorem yp {T U : TSW} {D : EndsW} {ρ : WS} {O : OM} (J : WS → OM → Prop) (ht : ∀ R : WS → OM → Prop, (∀ ρ' O', J ρ' O' → R ρ' O') → T { D with nx := R } ρ O) (hu : ∀ ρ' O', J ρ' O' → U D ρ' O') : vR T U D ρ O := ht (U D) hu
theorem xj.by {ws : List W} {keep : OM → Prop} {G : TGW} {TB : TSW} {D : EndsW} {ρ : WS} {O : OM} (Pv : Nat → WS → OM → Prop) (h0 : Pv 0 ρ O) (hk : ∀ i ρ O, Pv i ρ O → keep O)
    (hs : ∀ i w ρ O, ws[i]? = some w → Pv i ρ O → ∀ R : WS → OM → Prop, (∀ ρ' O', Pv (i + 1) ρ' O' → R ρ' O') → G w ρ O fun ρ' O' => TB { D with nx := R, ct := R, bk := D.nx } ρ' O') (hd : ∀ ρ O, Pv ws.length ρ O → D.nx ρ O) : xj ws keep G TB D ρ O :=
  ⟨Pv, h0, hk, fun i w ρ O e p => hs i w ρ O e p _ fun _ _ z => z, hd⟩
theorem xj.rng {n : Nat} {f : Nat → Int} {G : TGW} {TB : TSW} {D : EndsW} {ρ : WS} {O : OM} (Pv : Nat → WS → OM → Prop) (h0 : Pv 0 ρ O)
    (hs : ∀ i ρ O, i < n → Pv i ρ O → ∀ R : WS → OM → Prop, (∀ ρ' O', Pv (i + 1) ρ' O' → R ρ' O') → G (.d (.int (f i))) ρ O fun ρ' O' => TB { D with nx := R, ct := R, bk := D.nx } ρ' O') (hd : ∀ ρ O, Pv n ρ O → D.nx ρ O) : xj ((List.range n).map fun i => .d (.int (f i))) (fun _ => True) G TB D ρ O :=
  xj.by Pv h0 (fun _ _ _ _ => trivial) (fun i w ρ O e p R hR => by
    rw [List.getElem?_map] at e
    cases hr : (List.range n)[i]? with
    | none => rw [hr] at e; cases e
    | some j =>
      rw [hr] at e
      cases e
      obtain ⟨hi, hj⟩ := List.getElem?_eq_some_iff.mp hr
      simp at hi hj
      subst hj
      exact hs i ρ O hi p R hR) (fun ρ O p => hd ρ O (by simpa using p))
end
noncomputable abbrev PF := Nat → Nat → Cel
noncomputable def genG (h w : Nat) (f : PF) : List (List PyData) := (List.range h).map fun i => (List.range w).map fun j => yo (f i j)
theorem Xy {h w : Nat} {f : PF} {i : Nat} (hi : i < h) : (genG h w f)[i]? = some ((List.range w).map fun j => yo (f i j)) := by
  unfold genG
  rw [List.getElem?_map, List.getElem?_range hi]
  rfl
theorem y7 {h w : Nat} {f : PF} : (genG h w f).length = h := by simp [genG]
theorem UY {h w : Nat} {f g : PF} (e : ∀ i j, i < h → j < w → f i j = g i j) : genG h w f = genG h w g := by
  unfold genG
  refine List.map_congr_left fun i hi => List.map_congr_left fun j hj => ?_
  rw [e i j (by simpa using hi) (by simpa using hj)]
noncomputable def setF (f : PF) (i j : Nat) (c : Cel) : PF := fun a b => if a = i ∧ b = j then c else f a b
theorem Yt {α : Type} {n i : Nat} {f : Nat → α} {x : α} : ((List.range n).map f).set i x = (List.range n).map fun k => if k = i then x else f k := by
  apply List.ext_getElem?
  intro k
  rw [List.getElem?_set]
  by_cases hk : k < n
  · simp [hk]
    by_cases e : i = k
    · subst e; simp [hk]
    · simp [e, Ne.symm e]
  · simp [hk]
    omega
theorem Xz {h w : Nat} {f : PF} {i j : Nat} {c : Cel} (hi : i < h) : (genG h w f).set i (((List.range w).map fun j => yo (f i j)).set j (yo c)) = genG h w (setF f i j c) := by
  unfold genG
  rw [Yt, Yt]
  refine List.map_congr_left fun a ha => ?_
  by_cases e : a = i
  · subst e
    simp only [if_true, setF, true_and]
    refine List.map_congr_left fun b hb => ?_
    by_cases eb : b = j <;> simp [eb]
  · simp [e, setF]
theorem y8 {O : OM} {p : Addr} {rows : List (List PyData)} (h : O p = some (.grid rows)) : yR O (.own p) = some ((List.range rows.length).map (.row p)) := by simp [yR, h]
theorem vT {O : OM} {p : Addr} {h w i : Nat} {f : PF} (hp : O p = some (.grid (genG h w f))) (hi : i < h) : yR O (.row p i) = some ((List.range w).map fun j => .d (yo (f i j))) := by
  simp [yR, hp, Xy hi]
theorem xf {α : Type} {n : Nat} {f : Nat → α} {i : Int} (h0 : 0 ≤ i) (h1 : i < n) : atI ((List.range n).map f) i = some (f i.toNat) := by
  obtain ⟨k, rfl⟩ := Int.eq_ofNat_of_zero_le h0
  refine vN ?_
  rw [List.getElem?_map, List.getElem?_range (by omega)]
  rfl
theorem vg {O : OM} {p : Addr} {h w i : Nat} {f : PF} {k : Int} {c : Cel} (hp : O p = some (.grid (genG h w f))) (hi : i < h) (h0 : 0 ≤ k) (h1 : k < w) : u9 O (.row p i) k (.d (yo c)) = some (updO O p (.grid (genG h w (setF f i k.toNat c)))) := by
  have hx : ixN ((List.range w).map fun j => yo (f i j)).length k = some k.toNat := by
    unfold ixN
    rw [if_pos h0, if_pos (by simp; exact h1)]
  simp only [u9, hp, Xy hi, hx, Option.map_some, Xz hi]
end L2
namespace L2
open PySem PySem.Spec PyProof.Rows
theorem x3 {X : Cx} : OpR X (binaryOp .Mult) (rI IntMulOk fun i j => .int (i * j)) := opI fun _ _ _ _ _ _ _ hc q => mul_int q hc
theorem mulL {a b : Int} (h1 : -1000000000000 ≤ a) (h2 : a ≤ 1000000000000) : IntMulOk a b := (za9 h1 h2).ok
theorem mulR {a b : Int} (h1 : -1000000000000 ≤ b) (h2 : b ≤ 1000000000000) : IntMulOk a b := (J1 h1 h2).ok
noncomputable def Bt (m : Nat) (c : Int) : Prop := c.natAbs < 2 ^ m
theorem Bt.bits {m : Nat} {c : Int} (h : Bt m c) : Builtin.Int.intBits c ≤ m := by
  unfold Builtin.Int.intBits
  by_cases hc : c = 0
  · simp [hc]
  · have hn : c.natAbs ≠ 0 := by omega
    simp only [beq_iff_eq, hc, if_false]
    exact (Nat.log2_lt hn).mpr h
theorem Bt.mul {m : Nat} {a b : Int} (ha : Bt m a) (hb : Bt m b) (hm : m ≤ 67108864) : IntMulOk a b := by
  have h1 := ha.bits
  have h2 := hb.bits
  have hc : Builtin.Int.intTooBig ((Builtin.Int.intBits a : Nat) + (Builtin.Int.intBits b : Nat) : Int) = false := by
    unfold Builtin.Int.intTooBig bitsLine
    simp only [gt_iff_lt, decide_eq_false_iff_not, Int.not_lt]
    have : (2 : Nat) ^ 27 = 134217728 := by decide
    omega
  unfold IntMulOk
  rw [hc]
  simp
theorem Bt.add {m : Nat} {a b : Int} (ha : Bt m a) (hb : Bt m b) : Bt (m + 1) (a + b) := by
  unfold Bt at *
  rw [Nat.pow_succ]
  omega
theorem Bt.mono {m n : Nat} {a : Int} (ha : Bt m a) (h : m ≤ n) : Bt n a := Nat.lt_of_lt_of_le ha (Nat.pow_le_pow_right (by decide) h)
theorem Bt.small {a : Int} (h1 : -1000000000000 ≤ a) (h2 : a ≤ 1000000000000) : Bt 40 a := by
  unfold Bt
  have : (2 : Nat) ^ 40 = 1099511627776 := by decide
  omega
end L2
namespace L2
open PySem PySem.Spec PyProof.Rows
section
variable {K : PySem.W.Frag}
theorem RefR.weak {r : R2} {rw rw' : R2W} (h : RefR K r rw) (imp : ∀ x y O R, rw' x y O R → rw x y O R) : RefR K r rw' := fun Γ O H x y v u S rx ry Q R hT k => h Γ O H x y v u S rx ry Q R (imp _ _ _ _ hT) k
theorem RefC.weak {r : List V → Hp → VK → Prop} {rw rw' : List W → OM → WK → Prop} (h : RefC K r rw) (imp : ∀ x O R, rw' x O R → rw x O R) : RefC K r rw' := fun Γ O H xs vs S rs Q R hT k => h Γ O H xs vs S rs Q R (imp _ _ _ hT) k
noncomputable def UZ (i : Nat) : TEW := fun ρ O R => match ρ[i]? with
  | some (some w) => R w O
  | _ => False
theorem zdh {i : Nat} : RefE K (Ud i) (UZ i) := fun Γ O H ρ σ S r Q R hT k => zbk Γ O H ρ σ S r Q R (by
  unfold UZ at hT
  split at hT
  · rename_i w e; exact ⟨w, e, hT⟩
  · exact hT.elim) k
noncomputable def vI0 (g : Int → Int → V) : R2W := fun x y O R => match x, y with
  | .d (.int i), .d (.int j) => R (ofV (g i j)) O
  | _, _ => False
noncomputable def vI (C : Int → Int → Prop) (g : Int → Int → V) : R2W := fun x y O R => match x, y with
  | .d (.int i), .d (.int j) => C i j ∧ R (ofV (g i j)) O
  | _, _ => False
theorem zdV {g : Int → Int → V} (hg : ∀ i j, scV (g i j) = true := by intro _ _; rfl) : RefR K (rI0 g) (vI0 g) := (zeg hg).weak fun x y O R h => by
  unfold vI0 at h
  split at h
  · exact ⟨_, _, rfl, rfl, h⟩
  · exact h.elim
theorem zen {C : Int → Int → Prop} {g : Int → Int → V} (hg : ∀ i j, scV (g i j) = true := by intro _ _; rfl) : RefR K (rI C g) (vI C g) := (r_I hg).weak fun x y O R h => by
  unfold vI at h
  split at h
  · exact ⟨_, _, rfl, rfl, h⟩
  · exact h.elim
noncomputable def vU (g : Int → V) : W → OM → WK → Prop := fun x O R => match x with
  | .d (.int i) => R (ofV (g i)) O
  | _ => False
theorem zeo {g : Int → V} (hg : ∀ i, scV (g i) = true := by intro _; rfl) : RefU K (rU g) (vU g) := fun Γ O H x v S rx Q R h k => r_U hg Γ O H x v S rx Q R (by
  unfold vU at h
  split at h
  · exact ⟨_, rfl, h⟩
  · exact h.elim) k
noncomputable def vEq : R2W := fun x y O R => match x, y with
  | .d (.int i), .d (.int j) => R (.d (.bool (decide (i = j)))) O
  | .d a, .d b => scD a = true ∧ scD b = true ∧ Y9 (vOf a) (vOf b) = true ∧ R (.d (.bool (decide (vOf a = vOf b)))) O
  | _, _ => False
noncomputable def vNe : R2W := fun x y O R => match x, y with
  | .d (.int i), .d (.int j) => R (.d (.bool (!decide (i = j)))) O
  | .d a, .d b => scD a = true ∧ scD b = true ∧ Y9 (vOf a) (vOf b) = true ∧ R (.d (.bool (!decide (vOf a = vOf b)))) O
  | _, _ => False
theorem zdW : RefR K rEq vEq := zeh.weak fun x y O R h => by
  unfold vEq at h
  split at h
  · rename_i i j
    have e : decide (vOf (.int i) = vOf (.int j)) = decide (i = j) := by simp [vOf]
    exact ⟨.int i, .int j, rfl, rfl, rfl, rfl, rfl, by rw [e]; exact h⟩
  · exact ⟨_, _, rfl, rfl, h⟩
  · exact h.elim
noncomputable def U0 : R2W := fun x y O R => match y with
  | .d .none => R (.d (.bool (x9 x))) O
  | _ => False
noncomputable def YS : R2W := fun x y O R => match y with
  | .d .none => R (.d (.bool (!x9 x))) O
  | _ => False
theorem zdi : RefR K (fun x y H Q => y = .non ∧ Q (.bl (decide (x = .non))) H) U0 := zdK.weak fun x y O R h => by
  unfold U0 at h
  split at h
  · exact ⟨rfl, h⟩
  · exact h.elim
theorem zbL : RefR K (fun x y H Q => y = .non ∧ Q (.bl (!decide (x = .non))) H) YS := zcC.weak fun x y O R h => by
  unfold YS at h
  split at h
  · exact ⟨rfl, h⟩
  · exact h.elim
noncomputable def KF : R2W := fun x y O R => match y with
  | .d (.int i) => ∃ ws, yR O x = some ws ∧ ∃ w, atI ws i = some w ∧ R w O
  | _ => False
theorem zdj : RefR K (UB K) KF := zdM.weak fun x y O R h => by
  unfold KF at h
  split at h
  · obtain ⟨ws, e, w, e2, h⟩ := h
    exact ⟨ws, _, w, rfl, e, e2, h⟩
  · exact h.elim
noncomputable def ka (T : TEW) : TTW := fun ρ O R => T ρ O fun x O1 => match x with
  | .d (.bool k) => R k O1
  | _ => False
theorem V9 {t : TE} {T : TEW} (h : RefE K t T) : xP K (YN t) (ka T) := by
  intro Γ O H ρ σ S r0 Q R hT k
  refine h Γ O H ρ σ S r0 _ _ hT fun Γ1 O1 H1 x v l1 S1 rx h1 => ?_
  split at h1
  · exact ⟨_, rx, k _ _ _ _ l1 S1 h1⟩
  · exact h1.elim
theorem zdX {t : TE} {T : TEW} (h : RefE K t T) : xP K (tB t) (ka T) := V9 h
noncomputable def XA (r r' : R2W) (Ta Tb Tc : TEW) : TEW := fun ρ O R => Ta ρ O fun x O1 => Tb ρ O1 fun y O2 => r x y O2 fun z O3 => match z with
  | .d (.bool k) => if k = true then Tc ρ O3 fun w O4 => r' y w O4 R else R (.d (.bool false)) O3
  | _ => False
theorem KG {r r' : R2} {rw rw' : R2W} {ta tb tc : TE} {Ta Tb Tc : TEW} (hr : RefR K r rw) (hr' : RefR K r' rw') (ha : RefE K ta Ta) (hb : RefE K tb Tb) (hc : RefE K tc Tc) : RefE K (Xa r r' ta tb tc) (XA rw rw' Ta Tb Tc) := by
  intro Γ O H ρ σ S r0 Q R h k
  refine ha Γ O H ρ σ S r0 _ _ h fun Γ1 O1 H1 x v l1 S1 rx h1 => ?_
  refine hb Γ1 O1 H1 ρ σ S1 (r0.mono l1) _ _ h1 fun Γ2 O2 H2 y u l2 S2 ry h2 => ?_
  refine hr Γ2 O2 H2 x y v u S2 (rx.mono l2) ry _ _ h2 fun Γ3 O3 H3 w z l3 S3 rz h3 => ?_
  split at h3
  · rename_i c
    refine ⟨c, rz, ?_⟩
    have l13 := (l1.trans l2).trans l3
    cases c with
    | true =>
      rw [if_pos rfl] at h3 ⊢
      refine hc _ _ _ _ _ S3 (r0.mono l13) _ _ h3 fun Γ4 O4 H4 q z4 l4 S4 r4 h4 => ?_
      exact hr' _ _ _ _ _ _ _ S4 (ry.mono (l3.trans l4)) r4 _ _ h4 fun Γ5 O5 H5 w5 z5 l5 S5 r5 h5 => k _ _ _ _ _ ((l13.trans l4).trans l5) S5 r5 h5
    | false => rw [if_neg (by decide)] at h3 ⊢; exact k _ _ _ _ _ l13 S3 ue h3
  · exact h3.elim
noncomputable def KH (K : PySem.W.Frag) (Ta : TEW) (f : Str) : TEW := fun ρ O R => Ta ρ O fun x O1 => match x with
  | .own a => ∃ C dx fs, O1 a = some (.ins C dx fs) ∧ Cls K C ∧ NoAttr K C f ∧ ∃ w, fs.lookup f = some w ∧ R w O1
  | _ => False
theorem zdk {ta : TE} {Ta : TEW} {f : Str} (ha : RefE K ta Ta) : RefE K (JQ K ta f) (KH K Ta f) := by
  intro Γ O H ρ σ S r0 Q R hT k
  refine ha Γ O H ρ σ S r0 _ _ hT fun Γ1 O1 H1 x v l1 S1 rx h1 => ?_
  split at h1
  · obtain ⟨C, dx, fs, ho, c, na, w, e, h1⟩ := h1
    obtain ⟨_, vs, q1, q2⟩ := S1.o _ _ ho
    obtain ⟨u, e', ru⟩ := (Zm q2).2 w e
    exact ⟨_, C, dx, vs, u, rx, q1, c, na, e', k _ _ _ _ _ l1 S1 ru h1⟩
  · exact h1.elim
noncomputable def U1 (K : PySem.W.Frag) (Ta Tv : TEW) (f : Str) : TSW := fun D ρ O => Tv ρ O fun y O1 => Ta ρ O1 fun x O2 => match x with
  | .own a => ∃ C dx fs, O2 a = some (.ins C dx fs) ∧ Cls K C ∧ NoAttr K C f ∧ fs.length < 1000 ∧ D.nx ρ (updO O2 a (.ins C dx (y6 f y fs)))
  | _ => False
theorem zbM {ta tv : TE} {Ta Tv : TEW} {f : Str} (ha : RefE K ta Ta) (hv : RefE K tv Tv) : RefS K (JR K ta tv f) (U1 K Ta Tv f) := by
  intro Γ O H ρ σ D DW S r0 hT e
  refine hv Γ O H ρ σ S r0 _ _ hT fun Γ1 O1 H1 y u l1 S1 ry h1 => ?_
  refine ha _ _ _ _ _ S1 (r0.mono l1) _ _ h1 fun Γ2 O2 H2 x v l2 S2 rx h2 => ?_
  split at h2
  · obtain ⟨C, dx, fs, ho, c, na, hl, h2⟩ := h2
    obtain ⟨_, vs, q1, q2⟩ := S2.o _ _ ho
    refine ⟨_, C, dx, vs, rx, q1, c, na, by rw [← Paired.length q2]; exact hl, ?_⟩
    exact e.nx _ _ _ _ _ (l1.trans l2) (S2.put (oo := .ins C dx _) ho (by intro _ h; cases h) (by intro _ h; cases h) ⟨_, zx, UV (ry.mono l2) q2⟩) (r0.mono (l1.trans l2)) h2
  · exact h2.elim
noncomputable def XB (Td Ty : TEW) : TEW := fun ρ O R => Td ρ O fun x O1 => Ty ρ O1 fun y O2 => match x, kJ y with
  | .own a, some k => ∃ kvs, O2 a = some (.dK kvs) ∧ ∃ w, xl kvs k = some w ∧ R w O2
  | _, _ => False
theorem KI {td ty : TE} {Td Ty : TEW} (hd : RefE K td Td) (hy : RefE K ty Ty) : RefE K (Q2 td ty) (XB Td Ty) := by
  intro Γ O H ρ σ S r0 Q R hT k
  refine hd Γ O H ρ σ S r0 _ _ hT fun Γ1 O1 H1 x v l1 S1 rx h1 => ?_
  refine hy _ _ _ _ _ S1 (r0.mono l1) _ _ h1 fun Γ2 O2 H2 y u l2 S2 ry h2 => ?_
  split at h2
  · rename_i ky ek
    obtain ⟨kvs, ho, w, ev, h2⟩ := h2
    obtain ⟨_, vs, q1, q2⟩ := S2.o _ _ ho
    obtain ⟨z, ez, rz⟩ := (Ja q2).2 w ev
    exact ⟨_, vs, ky, z, rx, q1, Z3 ry ek, ez, k _ _ _ _ _ (l1.trans l2) S2 rz h2⟩
  · exact h2.elim
noncomputable def XC (Td Ty Tv : TEW) : TSW := fun D ρ O => Tv ρ O fun w O1 => Td ρ O1 fun x O2 => Ty ρ O2 fun y O3 => match x, kJ y with
  | .own a, some k => ∃ kvs, O3 a = some (.dK kvs) ∧ kvs.length < 1000 ∧ D.nx ρ (updO O3 a (.dK (yT kvs k w)))
  | _, _ => False
theorem KJ {td ty tv : TE} {Td Ty Tv : TEW} (hd : RefE K td Td) (hy : RefE K ty Ty) (hv : RefE K tv Tv) : RefS K (Q3 td ty tv) (XC Td Ty Tv) := by
  intro Γ O H ρ σ D DW S r0 hT e
  refine hv Γ O H ρ σ S r0 _ _ hT fun Γ1 O1 H1 w z l1 S1 rw h1 => ?_
  refine hd _ _ _ _ _ S1 (r0.mono l1) _ _ h1 fun Γ2 O2 H2 x v l2 S2 rx h2 => ?_
  refine hy _ _ _ _ _ S2 (r0.mono (l1.trans l2)) _ _ h2 fun Γ3 O3 H3 y u l3 S3 ry h3 => ?_
  split at h3
  · rename_i ky ek
    obtain ⟨kvs, ho, hl, h3⟩ := h3
    obtain ⟨_, vs, q1, q2⟩ := S3.o _ _ ho
    refine ⟨_, vs, ky, rx, q1, Z3 ry ek, by rw [← Paired.length q2]; exact hl, ?_⟩
    have l13 := (l1.trans l2).trans l3
    exact e.nx _ _ _ _ _ l13 (S3.put (oo := .dK _) ho (by intro _ h; cases h) (by intro _ h; cases h) ⟨_, zx, Ys ((rw.mono l2).mono l3) q2⟩) (r0.mono l13) h3
  · exact h3.elim
noncomputable def vI2 (g : Int → Int → Int) : List W → OM → WK → Prop := fun xs O R => match xs with
  | [.d (.int i), .d (.int j)] => R (.d (.int (g i j))) O
  | _ => False
theorem zdY {g : Int → Int → Int} : RefC K (fun xs H Q => ∃ i j, xs = [.int i, .int j] ∧ Q (.int (g i j)) H) (vI2 g) := zek.weak fun x O R h => by
  unfold vI2 at h
  split at h
  · exact ⟨_, _, rfl, h⟩
  · exact h.elim
end
end L2
namespace L2
open PySem PySem.Spec PyProof.Rows
structure ST where
  w : Nat
  h : Nat
  row : Int
  col : Int
  late : Bool
  ink : Int
  wrap : Bool
  putting : Bool
  home : Bool
  top : Int
  bottom : Int
  left : Int
  right : Int
  last : PyData
  pic : PF
noncomputable def fldW (p st kp : Addr) (S : ST) : List (Str × W) := [("picture", .own p), ("wide", .d (.int S.w)), ("high", .d (.int S.h)), ("row", .d (.int S.row)), ("column", .d (.int S.col)), ("late", .d (.bool S.late)), ("ink", .d (.int S.ink)), ("wrap", .d (.bool S.wrap)), ("putting", .d (.bool S.putting)), ("home", .d (.bool S.home)), ("top", .d (.int S.top)), ("bottom", .d (.int S.bottom)), ("left", .d (.int S.left)), ("right", .d (.int S.right)), ("stops", .own st), ("kept", .own kp), ("last", .d S.last)]
noncomputable def ownW (q : Addr) (S : ST) : List (Key × W) := [(Sum.inr "wide", .d (.int S.w)), (Sum.inr "high", .d (.int S.h)), (Sum.inr "top", .d (.int S.top)), (Sum.inr "left", .d (.int S.left)), (Sum.inr "cells", .own q), (Sum.inr "bottom", .d (.int S.bottom)), (Sum.inr "right", .d (.int S.right)), (Sum.inr "home", .d (.bool S.home)), (Sum.inr "putting", .d (.bool S.putting)), (Sum.inr "wrap", .d (.bool S.wrap)), (Sum.inr "last", .d S.last), (Sum.inr "late", .d (.bool S.late)), (Sum.inr "ink", .d (.int S.ink)), (Sum.inr "row", .d (.int S.row)), (Sum.inr "column", .d (.int S.col))]
section
variable {p st kp q : Addr} {S : ST}
theorem yQ : (fldW p st kp S).length = 17 := rfl
theorem xm : (ownW q S).length = 15 := rfl
theorem zu : (fldW p st kp S).lookup (Str.ofString "picture") = some (W.own p) := rfl
theorem z7 : (fldW p st kp S).lookup (Str.ofString "wide") = some (W.d (.int S.w)) := rfl
theorem z9 : (fldW p st kp S).lookup (Str.ofString "high") = some (W.d (.int S.h)) := rfl
theorem yz : (fldW p st kp S).lookup (Str.ofString "row") = some (W.d (.int S.row)) := rfl
theorem zC : (fldW p st kp S).lookup (Str.ofString "column") = some (W.d (.int S.col)) := rfl
theorem ya : (fldW p st kp S).lookup (Str.ofString "late") = some (W.d (.bool S.late)) := rfl
theorem yA : (fldW p st kp S).lookup (Str.ofString "ink") = some (W.d (.int S.ink)) := rfl
theorem yb : (fldW p st kp S).lookup (Str.ofString "wrap") = some (W.d (.bool S.wrap)) := rfl
theorem zv : (fldW p st kp S).lookup (Str.ofString "putting") = some (W.d (.bool S.putting)) := rfl
theorem yc : (fldW p st kp S).lookup (Str.ofString "home") = some (W.d (.bool S.home)) := rfl
theorem yB : (fldW p st kp S).lookup (Str.ofString "top") = some (W.d (.int S.top)) := rfl
theorem zD : (fldW p st kp S).lookup (Str.ofString "bottom") = some (W.d (.int S.bottom)) := rfl
theorem yd : (fldW p st kp S).lookup (Str.ofString "left") = some (W.d (.int S.left)) := rfl
theorem zK : (fldW p st kp S).lookup (Str.ofString "right") = some (W.d (.int S.right)) := rfl
theorem zL : (fldW p st kp S).lookup (Str.ofString "stops") = some (W.own st) := rfl
theorem ye : (fldW p st kp S).lookup (Str.ofString "kept") = some (W.own kp) := rfl
theorem yf : (fldW p st kp S).lookup (Str.ofString "last") = some (W.d S.last) := rfl
theorem zP : xl (ownW q S) (Sum.inr (Str.ofString "wide")) = some (W.d (.int S.w)) := rfl
theorem zQ : xl (ownW q S) (Sum.inr (Str.ofString "high")) = some (W.d (.int S.h)) := rfl
theorem yq : xl (ownW q S) (Sum.inr (Str.ofString "top")) = some (W.d (.int S.top)) := rfl
theorem zR : xl (ownW q S) (Sum.inr (Str.ofString "left")) = some (W.d (.int S.left)) := rfl
theorem zG : xl (ownW q S) (Sum.inr (Str.ofString "cells")) = some (W.own q) := rfl
theorem zy : xl (ownW q S) (Sum.inr (Str.ofString "bottom")) = some (W.d (.int S.bottom)) := rfl
theorem zH : xl (ownW q S) (Sum.inr (Str.ofString "right")) = some (W.d (.int S.right)) := rfl
theorem zS : xl (ownW q S) (Sum.inr (Str.ofString "home")) = some (W.d (.bool S.home)) := rfl
theorem zp : xl (ownW q S) (Sum.inr (Str.ofString "putting")) = some (W.d (.bool S.putting)) := rfl
theorem zT : xl (ownW q S) (Sum.inr (Str.ofString "wrap")) = some (W.d (.bool S.wrap)) := rfl
theorem zO : xl (ownW q S) (Sum.inr (Str.ofString "last")) = some (W.d S.last) := rfl
theorem zU : xl (ownW q S) (Sum.inr (Str.ofString "late")) = some (W.d (.bool S.late)) := rfl
theorem yr : xl (ownW q S) (Sum.inr (Str.ofString "ink")) = some (W.d (.int S.ink)) := rfl
theorem yt : xl (ownW q S) (Sum.inr (Str.ofString "row")) = some (W.d (.int S.row)) := rfl
theorem zz : xl (ownW q S) (Sum.inr (Str.ofString "column")) = some (W.d (.int S.col)) := rfl
theorem yC {x : Int} : y6 (Str.ofString "row") (.d (.int x)) (fldW p st kp S) = fldW p st kp { S with row := x } := rfl
theorem yu {x : Int} : yT (ownW q S) (Sum.inr (Str.ofString "row")) (.d (.int x)) = ownW q { S with row := x } := rfl
theorem zE {x : Int} : y6 (Str.ofString "column") (.d (.int x)) (fldW p st kp S) = fldW p st kp { S with col := x } := rfl
theorem zA {x : Int} : yT (ownW q S) (Sum.inr (Str.ofString "column")) (.d (.int x)) = ownW q { S with col := x } := rfl
theorem yg {x : Bool} : y6 (Str.ofString "late") (.d (.bool x)) (fldW p st kp S) = fldW p st kp { S with late := x } := rfl
theorem zV {x : Bool} : yT (ownW q S) (Sum.inr (Str.ofString "late")) (.d (.bool x)) = ownW q { S with late := x } := rfl
theorem yD {x : Int} : y6 (Str.ofString "ink") (.d (.int x)) (fldW p st kp S) = fldW p st kp { S with ink := x } := rfl
theorem yv {x : Int} : yT (ownW q S) (Sum.inr (Str.ofString "ink")) (.d (.int x)) = ownW q { S with ink := x } := rfl
theorem yh {x : Bool} : y6 (Str.ofString "wrap") (.d (.bool x)) (fldW p st kp S) = fldW p st kp { S with wrap := x } := rfl
theorem zW {x : Bool} : yT (ownW q S) (Sum.inr (Str.ofString "wrap")) (.d (.bool x)) = ownW q { S with wrap := x } := rfl
theorem zw {x : Bool} : y6 (Str.ofString "putting") (.d (.bool x)) (fldW p st kp S) = fldW p st kp { S with putting := x } := rfl
theorem zt {x : Bool} : yT (ownW q S) (Sum.inr (Str.ofString "putting")) (.d (.bool x)) = ownW q { S with putting := x } := rfl
theorem yi {x : Bool} : y6 (Str.ofString "home") (.d (.bool x)) (fldW p st kp S) = fldW p st kp { S with home := x } := rfl
theorem zX {x : Bool} : yT (ownW q S) (Sum.inr (Str.ofString "home")) (.d (.bool x)) = ownW q { S with home := x } := rfl
theorem yE {x : Int} : y6 (Str.ofString "top") (.d (.int x)) (fldW p st kp S) = fldW p st kp { S with top := x } := rfl
theorem yw {x : Int} : yT (ownW q S) (Sum.inr (Str.ofString "top")) (.d (.int x)) = ownW q { S with top := x } := rfl
theorem zF {x : Int} : y6 (Str.ofString "bottom") (.d (.int x)) (fldW p st kp S) = fldW p st kp { S with bottom := x } := rfl
theorem zB {x : Int} : yT (ownW q S) (Sum.inr (Str.ofString "bottom")) (.d (.int x)) = ownW q { S with bottom := x } := rfl
theorem yj {x : Int} : y6 (Str.ofString "left") (.d (.int x)) (fldW p st kp S) = fldW p st kp { S with left := x } := rfl
theorem zY {x : Int} : yT (ownW q S) (Sum.inr (Str.ofString "left")) (.d (.int x)) = ownW q { S with left := x } := rfl
theorem zM {x : Int} : y6 (Str.ofString "right") (.d (.int x)) (fldW p st kp S) = fldW p st kp { S with right := x } := rfl
theorem zI {x : Int} : yT (ownW q S) (Sum.inr (Str.ofString "right")) (.d (.int x)) = ownW q { S with right := x } := rfl
theorem yk {x : PyData} : y6 (Str.ofString "last") (.d x) (fldW p st kp S) = fldW p st kp { S with last := x } := rfl
theorem zZ {x : PyData} : yT (ownW q S) (Sum.inr (Str.ofString "last")) (.d x) = ownW q { S with last := x } := rfl
theorem zJ {r : Addr} : yT (ownW q S) (Sum.inr (Str.ofString "cells")) (.own r) = ownW r S := rfl
end
structure StAt (O : OM) (C x dx p st kp : Addr) (S : ST) : Prop where
  x : O x = some (.ins C dx (fldW p st kp S))
  p : O p = some (.grid (genG S.h S.w S.pic))
  st : O st = some (.dK ((List.range ((S.w - 1) / 4)).map fun i => (Sum.inl (4 + (i : Nat) * 4 : Int), W.d (.bool true))))
  kp : O kp = some (.lst [])
theorem neW {O : OM} {a b : Addr} {o u : OO} (h : O a = some o) (h' : O b = some u) (d : o ≠ u) : a ≠ b := by
  intro e; subst e; rw [h] at h'; exact d (Option.some.inj h')
section
variable {O O' : OM} {C x dx p st kp : Addr} {S : ST}
theorem StAt.xp (s : StAt O C x dx p st kp S) : x ≠ p := neW s.x s.p (by intro h; cases h)
theorem StAt.xs (s : StAt O C x dx p st kp S) : x ≠ st := neW s.x s.st (by intro h; cases h)
theorem StAt.xk (s : StAt O C x dx p st kp S) : x ≠ kp := neW s.x s.kp (by intro h; cases h)
theorem StAt.ps (s : StAt O C x dx p st kp S) : p ≠ st := neW s.p s.st (by intro h; cases h)
theorem StAt.pk (s : StAt O C x dx p st kp S) : p ≠ kp := neW s.p s.kp (by intro h; cases h)
noncomputable def But (O O' : OM) (x p : Addr) : Prop := ∀ b, b ≠ x → b ≠ p → O' b = O b
theorem But.refl : But O O x p := fun _ _ _ => rfl
theorem But.trans {O1 O2 : OM} (a : But O O1 x p) (b : But O1 O2 x p) : But O O2 x p := fun c h1 h2 => (b c h1 h2).trans (a c h1 h2)
theorem But.ux {o : OO} : But O (updO O x o) x p := fun _ h _ => zg h
theorem But.up {o : OO} : But O (updO O p o) x p := fun _ _ h => zg h
theorem StAt.fld (s : StAt O C x dx p st kp S) {S' : ST} (hw : S'.w = S.w) (hh : S'.h = S.h) (hp : S'.pic = S.pic) : StAt (updO O x (.ins C dx (fldW p st kp S'))) C x dx p st kp S' :=
  ⟨zl, by rw [zg (Ne.symm s.xp), hw, hh, hp]; exact s.p, by rw [zg (Ne.symm s.xs), hw]; exact s.st, by rw [zg (Ne.symm s.xk)]; exact s.kp⟩
theorem StAt.pic (s : StAt O C x dx p st kp S) {f : PF} : StAt (updO O p (.grid (genG S.h S.w f))) C x dx p st kp { S with pic := f } :=
  ⟨by rw [zg s.xp]; exact s.x, zl, by rw [zg (Ne.symm s.ps)]; exact s.st, by rw [zg (Ne.symm s.pk)]; exact s.kp⟩
theorem StAt.of (s : StAt O C x dx p st kp S) {S' : ST} (hx : O' x = some (.ins C dx (fldW p st kp S'))) (hp : O' p = some (.grid (genG S'.h S'.w S'.pic))) (hw : S'.w = S.w) (b : But O O' x p) : StAt O' C x dx p st kp S' :=
  ⟨hx, hp, by rw [b _ (Ne.symm s.xs) (Ne.symm s.ps), hw]; exact s.st, by rw [b _ (Ne.symm s.xk) (Ne.symm s.pk)]; exact s.kp⟩
theorem StAt.keep (s : StAt O C x dx p st kp S) {y z : Addr} (b : But O O' y z) (h1 : x ≠ y) (h2 : x ≠ z) (h3 : p ≠ y) (h4 : p ≠ z) (h5 : st ≠ y) (h6 : st ≠ z) (h7 : kp ≠ y) (h8 : kp ≠ z) : StAt O' C x dx p st kp S :=
  ⟨by rw [b _ h1 h2]; exact s.x, by rw [b _ h3 h4]; exact s.p, by rw [b _ h5 h6]; exact s.st, by rw [b _ h7 h8]; exact s.kp⟩
end
structure Bds (S : ST) : Prop where
  w1 : 1 ≤ S.w
  w2 : S.w ≤ 24
  h1 : 1 ≤ S.h
  h2 : S.h ≤ 12
  r0 : 0 ≤ S.row
  r1 : S.row < S.h
  c0 : 0 ≤ S.col
  c1 : S.col < S.w
  t0 : 0 ≤ S.top
  tb : S.top ≤ S.bottom
  b1 : S.bottom < S.h
  l0 : 0 ≤ S.left
  lr : S.left ≤ S.right
  rr : S.right < S.w
  i0 : 0 ≤ S.ink
  i1 : S.ink < 512
end L2
namespace L2
open PySem PySem.Spec PyProof.Rows
theorem zk {p q : Prop} [Decidable p] [Decidable q] {a b : Prop} : (if p then (if q then a else b) else b) = (if p ∧ q then a else b) := by
  by_cases hp : p <;> by_cases hq : q <;> simp [hp, hq]
noncomputable def xM : PyData → Prop
  | .none => True
  | .int i => 0 ≤ i ∧ i ≤ 1000000
  | _ => False
theorem xM.cs {n : PyData} (h : xM n) : n = .none ∨ ∃ i, n = .int i ∧ 0 ≤ i ∧ i ≤ 1000000 := by
  cases n <;> first | exact .inl rfl | exact h.elim | exact .inr ⟨_, rfl, h.1, h.2⟩
noncomputable def xn : PyData → Int
  | .int i => if i > 1 then i else 1
  | _ => 1
theorem Z6 {n : PyData} : 1 ≤ xn n := by cases n <;> simp [xn]; split <;> omega
theorem Z7 {n : PyData} (h : xM n) : xn n ≤ 1000000 := by
  rcases h.cs with rfl | ⟨i, rfl, h0, h1⟩
  · decide
  · simp only [xn]; split <;> omega
noncomputable def kK : SpW := fun ws O R => ∃ n, ws = [.d n] ∧ xM n ∧ R (.d (.int (xn n))) O
noncomputable def sI1 (P : Int → Prop) (f : Int → Int) : SpW := fun ws O R => ∃ a, ws = [.d (.int a)] ∧ P a ∧ R (.d (.int (f a))) O
noncomputable def sI2 (P : Int → Int → Prop) (f : Int → Int → Int) : SpW := fun ws O R => ∃ a b, ws = [.d (.int a), .d (.int b)] ∧ P a b ∧ R (.d (.int (f a b))) O
noncomputable def sI3 (P : Int → Int → Int → Prop) (f : Int → Int → Int → Int) : SpW := fun ws O R => ∃ a b c, ws = [.d (.int a), .d (.int b), .d (.int c)] ∧ P a b c ∧ R (.d (.int (f a b c))) O
noncomputable def x6 (n : PyData) (a b : Int) : Int := if b < a + xn n - 1 then b else a + xn n - 1
noncomputable def qI : SpW := fun ws O R => ∃ n a b, ws = [.d n, .d (.int a), .d (.int b)] ∧ xM n ∧ R (.d (.int (x6 n a b))) O
noncomputable def xW (c k : Int) : Int := (c + 7919 * k + 3) * (c + 7919 * k + 3) % 2147483647 * 48271 % 2147483647
theorem qr (c k : Int) : 0 ≤ xW c k := Int.emod_nonneg _ (by decide)
theorem zbN (c k : Int) : xW c k < 2147483647 := Int.emod_lt_of_pos _ (by decide)
noncomputable def qt : SpW := fun ws O R => ∃ ns : List Int, ∃ k : Nat, ws = [.d (.list (ns.map .int)), .d (.int k)] ∧ R (.d (.int (ns.getD k 0))) O
noncomputable def uG : SpW := fun ws O R => ∃ c : Int, ∃ k : Int, ws = [.d (.int c), .d (.int k)] ∧ 0 ≤ k ∧ k ≤ 1000 ∧ Bt 1048600 c ∧ R (.d (.int (xW c k))) O
noncomputable def U2 : PyData → Int
  | .int i => if i = 0 then 1 else i
  | _ => 1
theorem KK {n : PyData} (h : xM n) : U2 n = xn n := by
  rcases h.cs with rfl | ⟨i, rfl, h0, h1⟩
  · rfl
  · simp only [U2, xn]; split <;> split <;> omega
noncomputable def Zq : SpW := fun ws O R => ∃ n, ws = [.d n] ∧ xM n ∧ R (.d (.int (U2 n))) O
noncomputable def Zr : SpW := fun ws O R => ∃ n lo hi, ws = [.d (.int n), .d (.int lo), .d (.int hi)] ∧ R (.d (.bool (decide (lo ≤ n ∧ n ≤ hi)))) O
noncomputable def U3 : SpW := fun ws O R => ∃ a b : Nat, ws = [.d (.int a), .d (.int b)] ∧ 1 ≤ a ∧ a ≤ 24 ∧ 1 ≤ b ∧ b ≤ 12 ∧ R (.d (.bool true)) O
noncomputable def vh (m : PyData) (size : Int) : Int := match m with
  | .int i => if i = 0 then size else if size < i then size else i
  | _ => size
noncomputable def YT (n m : PyData) (size : Int) : PyData := if vh m size < xn n then .none else .tuple [.int (xn n - 1), .int (vh m size - 1)]
noncomputable def Zs : SpW := fun ws O R => ∃ n m s, ws = [.d n, .d m, .d (.int s)] ∧ xM n ∧ xM m ∧ R (.d (YT n m s)) O
noncomputable def vV (ink : Int) (n : PyData) : Int := match n with
  | .int i => if i = 0 then 0
    else if 1 ≤ i ∧ i ≤ 3 then Builtin.bitOr ink ((xN [(0, 64), (1, 128), (2, 256)] (i - 1)).getD 0)
    else if 4 ≤ i ∧ i ≤ 6 then Builtin.bitAnd ink (Builtin.bitNot ((xN [(0, 64), (1, 128), (2, 256)] (i - 4)).getD 0))
    else if i = 7 then Builtin.bitXor ink 448
    else if 10 ≤ i ∧ i ≤ 17 then (i - 10) + 8 * Builtin.bitAnd (ink / 8) 7 + 64 * Builtin.bitAnd (ink / 64) 7
    else if 20 ≤ i ∧ i ≤ 27 then Builtin.bitAnd ink 7 + 8 * (i - 20) + 64 * Builtin.bitAnd (ink / 64) 7
    else ink
  | _ => 0
noncomputable def Ink (i : Int) : Prop := 0 ≤ i ∧ i < 512
noncomputable def qu : SpW := sI3 (fun a b c => -1000 ≤ b ∧ b ≤ 1000 ∧ -1000 ≤ c ∧ c ≤ 1000) (fun a b c => a + 8 * b + 64 * c)
noncomputable def YU : SpW := fun ws O R => ∃ ink n, ws = [.d (.int ink), .d n] ∧ Ink ink ∧ xM n ∧ R (.d (.int (vV ink n))) O
noncomputable def eT (S : ST) : Int := if S.top ≤ S.row then S.top else 0
noncomputable def eB (S : ST) : Int := if S.row ≤ S.bottom then S.bottom else S.h - 1
noncomputable def eL (S : ST) : Int := if S.left ≤ S.col then S.left else 0
noncomputable def eR (S : ST) : Int := if S.col ≤ S.right then S.right else S.w - 1
noncomputable def plS (r c : PyData) (S : ST) : ST := if S.home = true then { S with row := x6 r S.top S.bottom, col := x6 c S.left S.right, late := false } else { S with row := x6 r 0 (S.h - 1), col := x6 c 0 (S.w - 1), late := false }
noncomputable def YV (a b : PyData) (S : ST) : ST := if vh b S.h < xn a then S else plS .none .none { S with top := xn a - 1, bottom := vh b S.h - 1 }
noncomputable def YW (a b : PyData) (S : ST) : ST := if vh b S.w < xn a then S else plS .none .none { S with left := xn a - 1, right := vh b S.w - 1 }
noncomputable def YX (k : Int) (on : Bool) (S : ST) : ST := if k = 1 then { S with wrap := on } else if k = 2 then { S with putting := on } else if k = 3 then plS .none .none { S with home := on } else S
noncomputable def xo (i : Int) : Cel := (Str.ofString " ", i)
noncomputable def atF (f : PF) (i j : Int) : Cel := f i.toNat j.toNat
noncomputable def mvP (f : PF) (ink t b l r dn ac : Int) : PF := fun i j =>
  if t ≤ (i : Int) ∧ (i : Int) ≤ b ∧ l ≤ (j : Int) ∧ (j : Int) ≤ r then (if t ≤ i + dn ∧ i + dn ≤ b ∧ l ≤ j + ac ∧ j + ac ≤ r then atF f (i + dn) (j + ac) else xo ink) else f i j
noncomputable def mvS (t b l r dn ac : Int) (S : ST) : ST := { S with pic := mvP S.pic S.ink t b l r dn ac }
noncomputable def sSt (C : Addr) (args : List W) (pre : ST → Prop) (f : ST → ST) : SpW := fun ws O R => ∃ x dx p st kp S, ws = .own x :: args ∧ StAt O C x dx p st kp S ∧ pre S ∧ ∀ O', StAt O' C x dx p st kp (f S) → But O O' x p → R (.d .none) O'
noncomputable def jB (C : Addr) : SpW := fun ws O R => ∃ x dx p st kp S, ws = [.own x] ∧ StAt O C x dx p st kp S ∧ R (.d (.tuple [.int (eT S), .int (eB S), .int (eL S), .int (eR S)])) O
noncomputable def qJ (C : Addr) : SpW := fun ws O R => ∃ x dx p st kp S, ws = [.own x] ∧ StAt O C x dx p st kp S ∧ R (.d (yo (xo S.ink))) O
noncomputable def Zt (C : Addr) : SpW := fun ws O R => ∃ r c, xM r ∧ xM c ∧ sSt C [.d r, .d c] (fun _ => True) (plS r c) ws O R
noncomputable def Zu (C : Addr) : SpW := sSt C [] (fun _ => True) (plS .none .none)
noncomputable def U4 (C : Addr) : SpW := fun ws O R => ∃ a b, xM a ∧ xM b ∧ sSt C [.d a, .d b] (fun _ => True) (YV a b) ws O R
noncomputable def U5 (C : Addr) : SpW := fun ws O R => ∃ a b, xM a ∧ xM b ∧ sSt C [.d a, .d b] (fun _ => True) (YW a b) ws O R
noncomputable def qK (ns : List PyData) (S : ST) : ST := { S with ink := ns.foldl vV S.ink }
noncomputable def U6 (C : Addr) : SpW := fun ws O R => ∃ ns : List PyData, (∀ n ∈ ns, xM n) ∧ sSt C [.d (.tuple ns)] (fun S => Ink S.ink) (qK ns) ws O R
noncomputable def Zv (C : Addr) : SpW := fun ws O R => ∃ k on, sSt C [.d (.tuple [.int k]), .d (.bool on)] (fun _ => True) (YX k on) ws O R
noncomputable def YY (a s : Int) (S : ST) : ST := mvS a S.bottom S.left S.right s 0 S
noncomputable def zep (a : Int) (S : ST) : Prop := Bds S ∧ 0 ≤ a ∧ a ≤ S.bottom
noncomputable def kb (C : Addr) : SpW := fun ws O R => ∃ a s, -2000000 ≤ s ∧ s ≤ 2000000 ∧ sSt C [.d (.int a), .d (.int s)] (zep a) (YY a s) ws O R
noncomputable def qv (s : Int) (S : ST) : ST := { mvS S.row S.row S.col (eR S) 0 s S with late := false }
noncomputable def KL (C : Addr) : SpW := fun ws O R => ∃ s, -2000000 ≤ s ∧ s ≤ 2000000 ∧ sSt C [.d (.int s)] Bds (qv s) ws O R
noncomputable def U7 (C : Addr) : SpW := fun ws O R => ∃ n, xM n ∧ sSt C [.d n] Bds (qv (-(xn n))) ws O R
noncomputable def uX (S : ST) : ST := { S with col := eL S, late := false }
noncomputable def U8 (C : Addr) : SpW := sSt C [] (fun _ => True) uX
noncomputable def lineE (S : ST) : ST := let S1 := uX S; if S1.row = S1.bottom then YY S1.top 1 S1 else if S1.row < S1.h - 1 then { S1 with row := S1.row + 1 } else S1
noncomputable def XD (C : Addr) : SpW := sSt C [] Bds lineE
noncomputable def vE (c : Str) (S : ST) : ST :=
  let S1 : ST := if S.late = true ∧ S.wrap = true then lineE S else S
  let S2 : ST := { S1 with late := false }
  let S3 : ST := if S2.putting = true then qv (-1) S2 else S2
  let S4 : ST := { S3 with pic := setF S3.pic S3.row.toNat S3.col.toNat (c, S3.ink), last := .str c }
  if S4.col < eR S4 then { S4 with col := S4.col + 1 } else { S4 with late := S4.wrap }
noncomputable def vW (C : Addr) : SpW := fun ws O R => ∃ c, sSt C [.d (.str c)] Bds (vE c) ws O R
noncomputable def uY : SpW := fun ws O R => ∃ (a : Nat) (i : Int), ws = [.d (.int a), .d (.int i)] ∧ a ≤ 24 ∧ ∀ p, O p = none → R (.own p) (updO O p (.lst (((List.range a).map fun _ => yo (xo i)).map .d)))
noncomputable def uZ : SpW := fun ws O R => ∃ (a b : Nat) (i : Int), ws = [.d (.int a), .d (.int b), .d (.int i)] ∧ 1 ≤ a ∧ a ≤ 24 ∧ 1 ≤ b ∧ b ≤ 12 ∧ ∀ p, O p = none → R (.own p) (updO O p (.grid (genG b a fun _ _ => xo i)))
noncomputable def Z8 : SpW := fun ws O R => ∃ p h w f, ws = [.own p] ∧ O p = some (.grid (genG h w f)) ∧ h ≤ 12 ∧ R (.d (.list ((genG h w f).map .list))) O
noncomputable def uH (w : Nat) : List (Key × W) := (List.range ((w - 1) / 4)).map fun i => (Sum.inl (4 + (i : Nat) * 4 : Int), W.d (.bool true))
noncomputable def XE : SpW := fun ws O R => ∃ a : Nat, ws = [.d (.int a)] ∧ 1 ≤ a ∧ a ≤ 24 ∧ ∀ p, O p = none → R (.own p) (updO O p (.dK (uH a)))
noncomputable def st0 (w h : Nat) (f : PF) : ST := ⟨w, h, 0, 0, false, 0, true, false, false, 0, h - 1, 0, w - 1, .none, f⟩
noncomputable def XF (C : Addr) : SpW := fun ws O R => ∃ x dx p, ∃ w h : Nat, ws = [.own x] ∧ O x = some (.ins C dx [("picture", .own p), ("wide", .d (.int w)), ("high", .d (.int h))]) ∧ 1 ≤ w ∧ w ≤ 24 ∧
  ∀ st kp O', O st = none → O kp = none → O' x = some (.ins C dx (fldW p st kp (st0 w h fun _ _ => xo 0))) → O' st = some (.dK (uH w)) → O' kp = some (.lst []) → (∀ b, b ≠ x → b ≠ st → b ≠ kp → O' b = O b) → R (.d .none) O'
noncomputable def U9 (C : Addr) : SpW := fun ws O R => ∃ x dx, ∃ w h : Nat, ws = [.own x, .d (.int w), .d (.int h)] ∧ O x = some (.ins C dx []) ∧ 1 ≤ w ∧ w ≤ 24 ∧ 1 ≤ h ∧ h ≤ 12 ∧
  ∀ p st kp O', O p = none → O st = none → O kp = none → StAt O' C x dx p st kp (st0 w h fun _ _ => xo 0) → (∀ b, b ≠ x → b ≠ p → b ≠ st → b ≠ kp → O' b = O b) → R (.d .none) O'
theorem KM {i : Int} (h : Ink i) : 0 ≤ Builtin.bitAnd (i / 8) 7 ∧ Builtin.bitAnd (i / 8) 7 ≤ 7 := by
  obtain ⟨n, rfl⟩ : ∃ n : _root_.Fin 512, i = ((n.val : Nat) : Int) := ⟨⟨i.toNat, by have := h.1; have := h.2; omega⟩, by have := h.1; simp only; omega⟩
  clear h
  revert n
  decide +kernel
theorem Yu {i : Int} (h : Ink i) : 0 ≤ Builtin.bitAnd (i / 64) 7 ∧ Builtin.bitAnd (i / 64) 7 ≤ 7 := by
  obtain ⟨n, rfl⟩ : ∃ n : _root_.Fin 512, i = ((n.val : Nat) : Int) := ⟨⟨i.toNat, by have := h.1; have := h.2; omega⟩, by have := h.1; simp only; omega⟩
  clear h
  revert n
  decide +kernel
theorem KN {i : Int} {n : PyData} (h : Ink i) : Ink (vV i n) := by
  cases n with
  | int k =>
    obtain ⟨m, rfl⟩ : ∃ m : _root_.Fin 512, i = ((m.val : Nat) : Int) := ⟨⟨i.toNat, by have := h.1; have := h.2; omega⟩, by have := h.1; simp only; omega⟩
    by_cases hk : 0 ≤ k ∧ k ≤ 27
    · obtain ⟨q, rfl⟩ : ∃ q : _root_.Fin 28, k = ((q.val : Nat) : Int) := ⟨⟨k.toNat, by omega⟩, by simp only; omega⟩
      clear h hk
      unfold Ink
      revert m q
      decide +kernel
    · simp only [vV]
      rw [if_neg (by omega), if_neg (by omega), if_neg (by omega), if_neg (by omega), if_neg (by omega), if_neg (by omega)]
      exact h
  | _ => exact ⟨Int.le_refl 0, (by decide : (0 : Int) < 512)⟩
end L2
namespace L2
open PySem PySem.Spec PyProof.Rows
theorem KO {h w : Nat} {f : PF} {k : Int} (h0 : 0 ≤ k) (h1 : k < h) : atI (((genG h w f).map PyData.list).map W.d) k = some (.d (.list ((List.range w).map fun j => yo (f k.toNat j)))) := by
  unfold genG
  rw [List.map_map, List.map_map]
  exact xf h0 h1
theorem XG {w : Nat} {g : Nat → Cel} {k : Int} (h0 : 0 ≤ k) (h1 : k < w) : atI (((List.range w).map fun j => yo (g j)).map W.d) k = some (.d (yo (g k.toNat))) := by
  rw [List.map_map]
  exact xf h0 h1
noncomputable def goP (N f : PF) (t l : Int) (i j : Nat) : PF := fun a b => if (a : Int) < t + i ∨ ((a : Int) = t + i ∧ (b : Int) < l + j) then N a b else f a b
theorem qL {N f : PF} {t l : Int} (hN : ∀ a b : Nat, (a : Int) < t ∨ ((a : Int) = t ∧ (b : Int) < l) → N a b = f a b) : goP N f t l 0 0 = f := by
  funext a b
  unfold goP
  split
  · rename_i e; exact hN a b (by omega)
  · rfl
theorem uI {N f : PF} {t l : Int} {i j : Nat} {r c : Nat} (hr : (r : Int) = t + i) (hc : (c : Int) = l + j) : setF (goP N f t l i j) r c (N r c) = goP N f t l i (j + 1) := by
  funext a b
  unfold setF goP
  by_cases e : a = r ∧ b = c
  · obtain ⟨rfl, rfl⟩ := e
    rw [if_pos ⟨rfl, rfl⟩, if_pos (by omega)]
  · rw [if_neg e]
    by_cases e2 : (a : Int) < t + i ∨ ((a : Int) = t + i ∧ (b : Int) < l + j)
    · rw [if_pos e2, if_pos (by omega)]
    · rw [if_neg e2, if_neg (by omega)]
theorem kd {N f : PF} {t l : Int} {i n : Nat} (hN : ∀ a b : Nat, (a : Int) = t + i → l + n ≤ b → N a b = f a b) (hM : ∀ a b : Nat, (a : Int) = t + i + 1 → (b : Int) < l → N a b = f a b) : goP N f t l i n = goP N f t l (i + 1) 0 := by
  funext a b
  unfold goP
  by_cases e2 : (a : Int) < t + i ∨ ((a : Int) = t + i ∧ (b : Int) < l + n)
  · rw [if_pos e2, if_pos (by omega)]
  · rw [if_neg e2]
    split
    · rename_i e3
      by_cases e4 : (a : Int) = t + i
      · exact (hN a b e4 (by omega)).symm
      · exact (hM a b (by omega) (by omega)).symm
    · rfl
theorem ke {N f : PF} {t l : Int} {n : Nat} (hN : ∀ a b : Nat, t + n ≤ a → N a b = f a b) : goP N f t l n 0 = N := by
  funext a b
  unfold goP
  split
  · rfl
  · rename_i e
    by_cases e4 : t + n ≤ a
    · exact (hN a b e4).symm
    · exact absurd (.inl (by omega)) e
theorem xD {f : PF} {ink t b l r dn ac : Int} {i j : Nat} (h : ¬ (t ≤ (i : Int) ∧ (i : Int) ≤ b ∧ l ≤ (j : Int) ∧ (j : Int) ≤ r)) : mvP f ink t b l r dn ac i j = f i j := if_neg h
end L2
namespace L2
open PySem PySem.Spec PyProof.Rows
theorem Jj {O : OM} {ds : List PyData} : yR O (.d (.list ds)) = some (ds.map .d) := rfl
end L2
namespace L2
open PySem PySem.Spec PyProof.Rows
theorem kf {T1 T2 T3 U : TSW} {D : EndsW} {ρ : WS} {O : OM} (J : WS → OM → Prop) (ht : ∀ R : WS → OM → Prop, (∀ ρ' O', J ρ' O' → R ρ' O') → vR T1 (vR T2 T3) { D with nx := R } ρ O) (hu : ∀ ρ' O', J ρ' O' → U D ρ' O') : vR T1 (vR T2 (vR T3 U)) D ρ O := ht (U D) hu
theorem zdl {α : Type} {a b c d : α} : atI [a, b, c, d] (3 : Int) = some d := rfl
theorem zaJ {S : ST} (h : Bds S) : 0 ≤ eL S ∧ eL S < S.w := by
  have := h.l0; have := h.lr; have := h.rr; have := h.w1
  unfold eL; split <;> omega
theorem qM {S : ST} (h : Bds S) : S.col ≤ eR S ∧ eR S < S.w := by
  have := h.l0; have := h.lr; have := h.rr; have := h.c1
  unfold eR; split <;> omega
theorem Bds.left {S : ST} (h : Bds S) : Bds (uX S) := { h with c0 := (zaJ h).1, c1 := (zaJ h).2 }
theorem Bds.pic' {S : ST} {f : PF} (h : Bds S) : Bds { S with pic := f } := { h with }
theorem Bds.late' {S : ST} {b : Bool} (h : Bds S) : Bds { S with late := b } := { h with }
theorem Bds.roll {S : ST} {a s : Int} (h : Bds S) : Bds (YY a s S) := { h with }
theorem Bds.cells {S : ST} {s : Int} (h : Bds S) : Bds (qv s S) := { h with }
theorem Bds.lineE {S : ST} (h : Bds S) : Bds (lineE S) := by
  have h1 := h.left
  unfold L2.lineE
  dsimp only
  split
  · exact h1.roll
  · split
    · rename_i e1 e2
      exact { h1 with r0 := by have := h1.r0; simp only at *; omega, r1 := by simp only at *; omega }
    · exact h1
end L2
namespace L2
open PySem PySem.Spec PyProof.Rows
noncomputable def pA (S : ST) : ST := if S.late = true ∧ S.wrap = true then lineE S else S
noncomputable def pB (S : ST) : ST := { S with late := false }
noncomputable def pC (S : ST) : ST := if S.putting = true then qv (-1) S else S
noncomputable def pD (c : Str) (S : ST) : ST := { S with pic := setF S.pic S.row.toNat S.col.toNat (c, S.ink) }
noncomputable def pE (c : Str) (S : ST) : ST := { S with last := .str c }
noncomputable def pF (S : ST) : ST := if S.col < eR S then { S with col := S.col + 1 } else { S with late := S.wrap }
theorem vz (c : Str) (S : ST) : vE c S = pF (pE c (pD c (pC (pB (pA S))))) := rfl
theorem Bds.pA {S : ST} (h : Bds S) : Bds (pA S) := by unfold L2.pA; split; exact h.lineE; exact h
theorem Bds.pB {S : ST} (h : Bds S) : Bds (pB S) := h.late'
theorem Bds.pC {S : ST} (h : Bds S) : Bds (pC S) := by unfold L2.pC; split; exact h.cells; exact h
theorem Bds.pD {c : Str} {S : ST} (h : Bds S) : Bds (pD c S) := h.pic'
theorem Bds.pE {c : Str} {S : ST} (h : Bds S) : Bds (pE c S) := { h with }
theorem Bds.pF {S : ST} (h : Bds S) : Bds (pF S) := by
  unfold L2.pF
  split
  · rename_i e
    have := qM h
    exact { h with c0 := by have := h.c0; simp only; omega, c1 := by simp only; omega }
  · exact h.late'
end L2
namespace L2
open PySem
theorem zeq {a0 a1 a2 v : W} : y6 (Str.ofString "row") v [(Str.ofString "picture", a0), (Str.ofString "wide", a1), (Str.ofString "high", a2)] = [(Str.ofString "picture", a0), (Str.ofString "wide", a1), (Str.ofString "high", a2)] ++ [(Str.ofString "row", v)] := rfl
theorem zer {a0 a1 a2 a3 v : W} : y6 (Str.ofString "column") v [(Str.ofString "picture", a0), (Str.ofString "wide", a1), (Str.ofString "high", a2), (Str.ofString "row", a3)] = [(Str.ofString "picture", a0), (Str.ofString "wide", a1), (Str.ofString "high", a2), (Str.ofString "row", a3)] ++ [(Str.ofString "column", v)] := rfl
theorem zes {a0 a1 a2 a3 a4 v : W} : y6 (Str.ofString "late") v [(Str.ofString "picture", a0), (Str.ofString "wide", a1), (Str.ofString "high", a2), (Str.ofString "row", a3), (Str.ofString "column", a4)] = [(Str.ofString "picture", a0), (Str.ofString "wide", a1), (Str.ofString "high", a2), (Str.ofString "row", a3), (Str.ofString "column", a4)] ++ [(Str.ofString "late", v)] := rfl
theorem zet {a0 a1 a2 a3 a4 a5 v : W} : y6 (Str.ofString "ink") v [(Str.ofString "picture", a0), (Str.ofString "wide", a1), (Str.ofString "high", a2), (Str.ofString "row", a3), (Str.ofString "column", a4), (Str.ofString "late", a5)] = [(Str.ofString "picture", a0), (Str.ofString "wide", a1), (Str.ofString "high", a2), (Str.ofString "row", a3), (Str.ofString "column", a4), (Str.ofString "late", a5)] ++ [(Str.ofString "ink", v)] := rfl
theorem zeu {a0 a1 a2 a3 a4 a5 a6 v : W} : y6 (Str.ofString "wrap") v [(Str.ofString "picture", a0), (Str.ofString "wide", a1), (Str.ofString "high", a2), (Str.ofString "row", a3), (Str.ofString "column", a4), (Str.ofString "late", a5), (Str.ofString "ink", a6)] = [(Str.ofString "picture", a0), (Str.ofString "wide", a1), (Str.ofString "high", a2), (Str.ofString "row", a3), (Str.ofString "column", a4), (Str.ofString "late", a5), (Str.ofString "ink", a6)] ++ [(Str.ofString "wrap", v)] := rfl
theorem zev {a0 a1 a2 a3 a4 a5 a6 a7 v : W} : y6 (Str.ofString "putting") v [(Str.ofString "picture", a0), (Str.ofString "wide", a1), (Str.ofString "high", a2), (Str.ofString "row", a3), (Str.ofString "column", a4), (Str.ofString "late", a5), (Str.ofString "ink", a6), (Str.ofString "wrap", a7)] = [(Str.ofString "picture", a0), (Str.ofString "wide", a1), (Str.ofString "high", a2), (Str.ofString "row", a3), (Str.ofString "column", a4), (Str.ofString "late", a5), (Str.ofString "ink", a6), (Str.ofString "wrap", a7)] ++ [(Str.ofString "putting", v)] := rfl
theorem zew {a0 a1 a2 a3 a4 a5 a6 a7 a8 v : W} : y6 (Str.ofString "home") v [(Str.ofString "picture", a0), (Str.ofString "wide", a1), (Str.ofString "high", a2), (Str.ofString "row", a3), (Str.ofString "column", a4), (Str.ofString "late", a5), (Str.ofString "ink", a6), (Str.ofString "wrap", a7), (Str.ofString "putting", a8)] = [(Str.ofString "picture", a0), (Str.ofString "wide", a1), (Str.ofString "high", a2), (Str.ofString "row", a3), (Str.ofString "column", a4), (Str.ofString "late", a5), (Str.ofString "ink", a6), (Str.ofString "wrap", a7), (Str.ofString "putting", a8)] ++ [(Str.ofString "home", v)] := rfl
theorem zdZ {a0 a1 a2 a3 a4 a5 a6 a7 a8 a9 v : W} : y6 (Str.ofString "top") v [(Str.ofString "picture", a0), (Str.ofString "wide", a1), (Str.ofString "high", a2), (Str.ofString "row", a3), (Str.ofString "column", a4), (Str.ofString "late", a5), (Str.ofString "ink", a6), (Str.ofString "wrap", a7), (Str.ofString "putting", a8), (Str.ofString "home", a9)] = [(Str.ofString "picture", a0), (Str.ofString "wide", a1), (Str.ofString "high", a2), (Str.ofString "row", a3), (Str.ofString "column", a4), (Str.ofString "late", a5), (Str.ofString "ink", a6), (Str.ofString "wrap", a7), (Str.ofString "putting", a8), (Str.ofString "home", a9)] ++ [(Str.ofString "top", v)] := rfl
theorem zd0 {a0 a1 a2 a3 a4 a5 a6 a7 a8 a9 a10 v : W} : y6 (Str.ofString "bottom") v [(Str.ofString "picture", a0), (Str.ofString "wide", a1), (Str.ofString "high", a2), (Str.ofString "row", a3), (Str.ofString "column", a4), (Str.ofString "late", a5), (Str.ofString "ink", a6), (Str.ofString "wrap", a7), (Str.ofString "putting", a8), (Str.ofString "home", a9), (Str.ofString "top", a10)] = [(Str.ofString "picture", a0), (Str.ofString "wide", a1), (Str.ofString "high", a2), (Str.ofString "row", a3), (Str.ofString "column", a4), (Str.ofString "late", a5), (Str.ofString "ink", a6), (Str.ofString "wrap", a7), (Str.ofString "putting", a8), (Str.ofString "home", a9), (Str.ofString "top", a10)] ++ [(Str.ofString "bottom", v)] := rfl
theorem zd1 {a0 a1 a2 a3 a4 a5 a6 a7 a8 a9 a10 a11 v : W} : y6 (Str.ofString "left") v [(Str.ofString "picture", a0), (Str.ofString "wide", a1), (Str.ofString "high", a2), (Str.ofString "row", a3), (Str.ofString "column", a4), (Str.ofString "late", a5), (Str.ofString "ink", a6), (Str.ofString "wrap", a7), (Str.ofString "putting", a8), (Str.ofString "home", a9), (Str.ofString "top", a10), (Str.ofString "bottom", a11)] = [(Str.ofString "picture", a0), (Str.ofString "wide", a1), (Str.ofString "high", a2), (Str.ofString "row", a3), (Str.ofString "column", a4), (Str.ofString "late", a5), (Str.ofString "ink", a6), (Str.ofString "wrap", a7), (Str.ofString "putting", a8), (Str.ofString "home", a9), (Str.ofString "top", a10), (Str.ofString "bottom", a11)] ++ [(Str.ofString "left", v)] := rfl
theorem zd2 {a0 a1 a2 a3 a4 a5 a6 a7 a8 a9 a10 a11 a12 v : W} : y6 (Str.ofString "right") v [(Str.ofString "picture", a0), (Str.ofString "wide", a1), (Str.ofString "high", a2), (Str.ofString "row", a3), (Str.ofString "column", a4), (Str.ofString "late", a5), (Str.ofString "ink", a6), (Str.ofString "wrap", a7), (Str.ofString "putting", a8), (Str.ofString "home", a9), (Str.ofString "top", a10), (Str.ofString "bottom", a11), (Str.ofString "left", a12)] = [(Str.ofString "picture", a0), (Str.ofString "wide", a1), (Str.ofString "high", a2), (Str.ofString "row", a3), (Str.ofString "column", a4), (Str.ofString "late", a5), (Str.ofString "ink", a6), (Str.ofString "wrap", a7), (Str.ofString "putting", a8), (Str.ofString "home", a9), (Str.ofString "top", a10), (Str.ofString "bottom", a11), (Str.ofString "left", a12)] ++ [(Str.ofString "right", v)] := rfl
theorem zd3 {a0 a1 a2 a3 a4 a5 a6 a7 a8 a9 a10 a11 a12 a13 v : W} : y6 (Str.ofString "stops") v [(Str.ofString "picture", a0), (Str.ofString "wide", a1), (Str.ofString "high", a2), (Str.ofString "row", a3), (Str.ofString "column", a4), (Str.ofString "late", a5), (Str.ofString "ink", a6), (Str.ofString "wrap", a7), (Str.ofString "putting", a8), (Str.ofString "home", a9), (Str.ofString "top", a10), (Str.ofString "bottom", a11), (Str.ofString "left", a12), (Str.ofString "right", a13)] = [(Str.ofString "picture", a0), (Str.ofString "wide", a1), (Str.ofString "high", a2), (Str.ofString "row", a3), (Str.ofString "column", a4), (Str.ofString "late", a5), (Str.ofString "ink", a6), (Str.ofString "wrap", a7), (Str.ofString "putting", a8), (Str.ofString "home", a9), (Str.ofString "top", a10), (Str.ofString "bottom", a11), (Str.ofString "left", a12), (Str.ofString "right", a13)] ++ [(Str.ofString "stops", v)] := rfl
theorem zaK {a0 a1 a2 a3 a4 a5 a6 a7 a8 a9 a10 a11 a12 a13 a14 v : W} : y6 (Str.ofString "kept") v [(Str.ofString "picture", a0), (Str.ofString "wide", a1), (Str.ofString "high", a2), (Str.ofString "row", a3), (Str.ofString "column", a4), (Str.ofString "late", a5), (Str.ofString "ink", a6), (Str.ofString "wrap", a7), (Str.ofString "putting", a8), (Str.ofString "home", a9), (Str.ofString "top", a10), (Str.ofString "bottom", a11), (Str.ofString "left", a12), (Str.ofString "right", a13), (Str.ofString "stops", a14)] = [(Str.ofString "picture", a0), (Str.ofString "wide", a1), (Str.ofString "high", a2), (Str.ofString "row", a3), (Str.ofString "column", a4), (Str.ofString "late", a5), (Str.ofString "ink", a6), (Str.ofString "wrap", a7), (Str.ofString "putting", a8), (Str.ofString "home", a9), (Str.ofString "top", a10), (Str.ofString "bottom", a11), (Str.ofString "left", a12), (Str.ofString "right", a13), (Str.ofString "stops", a14)] ++ [(Str.ofString "kept", v)] := rfl
theorem zd4 {a0 a1 a2 a3 a4 a5 a6 a7 a8 a9 a10 a11 a12 a13 a14 a15 v : W} : y6 (Str.ofString "last") v [(Str.ofString "picture", a0), (Str.ofString "wide", a1), (Str.ofString "high", a2), (Str.ofString "row", a3), (Str.ofString "column", a4), (Str.ofString "late", a5), (Str.ofString "ink", a6), (Str.ofString "wrap", a7), (Str.ofString "putting", a8), (Str.ofString "home", a9), (Str.ofString "top", a10), (Str.ofString "bottom", a11), (Str.ofString "left", a12), (Str.ofString "right", a13), (Str.ofString "stops", a14), (Str.ofString "kept", a15)] = [(Str.ofString "picture", a0), (Str.ofString "wide", a1), (Str.ofString "high", a2), (Str.ofString "row", a3), (Str.ofString "column", a4), (Str.ofString "late", a5), (Str.ofString "ink", a6), (Str.ofString "wrap", a7), (Str.ofString "putting", a8), (Str.ofString "home", a9), (Str.ofString "top", a10), (Str.ofString "bottom", a11), (Str.ofString "left", a12), (Str.ofString "right", a13), (Str.ofString "stops", a14), (Str.ofString "kept", a15)] ++ [(Str.ofString "last", v)] := rfl
theorem Qa {a0 a1 a2 : W} : List.lookup (Str.ofString "begin") [(Str.ofString "picture", a0), (Str.ofString "wide", a1), (Str.ofString "high", a2)] = none := rfl
theorem Qb {a0 a1 a2 a3 a4 a5 a6 a7 a8 a9 a10 : W} : List.lookup (Str.ofString "high") [(Str.ofString "picture", a0), (Str.ofString "wide", a1), (Str.ofString "high", a2), (Str.ofString "row", a3), (Str.ofString "column", a4), (Str.ofString "late", a5), (Str.ofString "ink", a6), (Str.ofString "wrap", a7), (Str.ofString "putting", a8), (Str.ofString "home", a9), (Str.ofString "top", a10)] = some a2 := rfl
theorem Qc {a0 a1 a2 a3 a4 a5 a6 a7 a8 a9 a10 a11 a12 : W} : List.lookup (Str.ofString "wide") [(Str.ofString "picture", a0), (Str.ofString "wide", a1), (Str.ofString "high", a2), (Str.ofString "row", a3), (Str.ofString "column", a4), (Str.ofString "late", a5), (Str.ofString "ink", a6), (Str.ofString "wrap", a7), (Str.ofString "putting", a8), (Str.ofString "home", a9), (Str.ofString "top", a10), (Str.ofString "bottom", a11), (Str.ofString "left", a12)] = some a1 := rfl
theorem Qd {a0 a1 a2 a3 a4 a5 a6 a7 a8 a9 a10 a11 a12 a13 : W} : List.lookup (Str.ofString "wide") [(Str.ofString "picture", a0), (Str.ofString "wide", a1), (Str.ofString "high", a2), (Str.ofString "row", a3), (Str.ofString "column", a4), (Str.ofString "late", a5), (Str.ofString "ink", a6), (Str.ofString "wrap", a7), (Str.ofString "putting", a8), (Str.ofString "home", a9), (Str.ofString "top", a10), (Str.ofString "bottom", a11), (Str.ofString "left", a12), (Str.ofString "right", a13)] = some a1 := rfl
theorem zex { v : W} : y6 (Str.ofString "picture") v [] = [] ++ [(Str.ofString "picture", v)] := rfl
theorem zey {a0 v : W} : y6 (Str.ofString "wide") v [(Str.ofString "picture", a0)] = [(Str.ofString "picture", a0)] ++ [(Str.ofString "wide", v)] := rfl
theorem zez {a0 a1 v : W} : y6 (Str.ofString "high") v [(Str.ofString "picture", a0), (Str.ofString "wide", a1)] = [(Str.ofString "picture", a0), (Str.ofString "wide", a1)] ++ [(Str.ofString "high", v)] := rfl
end L2
namespace L2
open PySem PySem.Spec PyProof.Rows
theorem Jk {κ α : Type} [DecidableEq κ] {kvs : List (κ × α)} {k : κ} {v : α} (h : k ∉ kvs.map (·.1)) : yT kvs k v = kvs ++ [(k, v)] := by
  unfold yT
  rw [if_neg]
  intro e
  rw [List.any_eq_true] at e
  obtain ⟨kv, h1, h2⟩ := e
  exact h (List.mem_map.mpr ⟨kv, h1, by simpa using h2⟩)
theorem Zw {κ α : Type} [DecidableEq κ] : ∀ {more kvs : List (κ × α)}, ((kvs ++ more).map (·.1)).Nodup → uf kvs more = kvs ++ more
  | [], kvs, _ => by simp [uf]
  | (k, v) :: more, kvs, h => by
    have hk : k ∉ kvs.map (·.1) := by
      intro m
      rw [List.map_append, List.nodup_append] at h
      exact h.2.2 k m k (by simp) rfl
    show uf (yT kvs k v) more = _
    rw [Jk hk, Zw (by simpa using h)]
    simp
theorem r3w {w : Nat} (h1 : 1 ≤ w) (h2 : w ≤ 24) : R3 4 w 4 ((w - 1) / 4) := by
  have e : ∀ n : _root_.Fin 25, 1 ≤ n.val → (4 : Int) ≠ 0 ∧ Builtin.Range.small 4 ((n.val : Nat) : Int) 4 = true ∧ Builtin.Range.rangeSize 4 ((n.val : Nat) : Int) 4 = (((n.val - 1) / 4 : Nat)) ∧ Builtin.divisionGoesByPylong (((n.val : Nat) : Int) - 4) 4 = false := by decide +kernel
  exact e ⟨w, by omega⟩ h1
theorem KP {w : Nat} (h2 : w ≤ 24) : ((uH w).map (·.1)).Nodup := by
  have e : ∀ n : _root_.Fin 25, ((List.range ((n.val - 1) / 4)).map fun i => (Sum.inl (4 + (i : Nat) * 4 : Int) : Key)).Nodup := by decide +kernel
  have := e ⟨w, by omega⟩
  unfold uH
  rw [List.map_map]
  exact this
noncomputable def Jl (K : PySem.W.Frag) : List V → Hp → VK → Prop := Q0 K
theorem zbO {X : Cx} {K : PySem.W.Frag} (hK : X.K = K) (hc : X.calm = true) : y9 X (.type "dict") (Jl K) := by subst hK; exact UI hc
noncomputable def vF : List PyData → Option (List (Key × PyData))
  | [] => some []
  | .tuple [.int i, v] :: r => (vF r).map ((Sum.inl i, v) :: ·)
  | .tuple [.str i, v] :: r => (vF r).map ((Sum.inr i, v) :: ·)
  | _ => none
theorem qN {K : PySem.W.Frag} {Γ : Gh} : ∀ {ds : List PyData} {kvs : List (Key × PyData)} {vs : List V}, vF ds = some kvs → Reps K Γ.Z ds vs → ∃ us : List (Key × V), vx K Γ.Z vs us ∧ yP K Γ (kvs.map fun kv => (kv.1, W.d kv.2)) us
  | [], kvs, vs, e, h => by
    cases e
    rw [show vs = [] from h]
    exact ⟨[], .nil, .nil⟩
  | d :: ds, kvs, vs, e, h => by
    obtain ⟨x, r, rfl, h1, h2⟩ := h
    unfold vF at e
    split at e
    · rename_i heq; cases heq
    · rename_i i v r' heq
      cases heq
      cases hp : vF ds with
      | none => rw [hp] at e; cases e
      | some k2 =>
        rw [hp] at e
        cases e
        obtain ⟨us, q1, q2⟩ := qN hp h2
        obtain ⟨a, xs, rfl, s1, y1, r1, e1, s2, y2, r2, e2, s3, e3⟩ := h1
        subst e1 e2
        rw [show r2 = [] from e3] at s1
        rw [show y1 = .int i from s2] at s1
        exact ⟨(Sum.inl i, y2) :: us, .cons ⟨a, rfl, s1⟩ q1, .cons ⟨rfl, s3⟩ q2⟩
    · rename_i i v r' heq
      cases heq
      cases hp : vF ds with
      | none => rw [hp] at e; cases e
      | some k2 =>
        rw [hp] at e
        cases e
        obtain ⟨us, q1, q2⟩ := qN hp h2
        obtain ⟨a, xs, rfl, s1, y1, r1, e1, s2, y2, r2, e2, s3, e3⟩ := h1
        subst e1 e2
        rw [show r2 = [] from e3] at s1
        rw [show y1 = .str i from s2] at s1
        exact ⟨(Sum.inr i, y2) :: us, .cons ⟨a, rfl, s1⟩ q1, .cons ⟨rfl, s3⟩ q2⟩
    · cases e
noncomputable def Jm : List W → OM → WK → Prop := fun xs O R => ∃ w ds kvs, xs = [w] ∧ yR O w = some (ds.map .d) ∧ vF ds = some kvs ∧ kvs.length ≤ 1000 ∧ ∀ p, O p = none → R (.own p) (updO O p (.dK (uf [] (kvs.map fun kv => (kv.1, .d kv.2)))))
theorem zbP {K : PySem.W.Frag} : RefC K (Jl K) Jm := by
  rintro Γ O H xs vs S rs Q R ⟨w, ds, kvs, rfl, e, ep, hl, h⟩ k
  cases rs with
  | cons rx t =>
    cases t
    obtain ⟨a, ys, rfl, q1, q2⟩ := xy S rx e
    obtain ⟨us, p1, p2⟩ := qN ep (yy q2)
    refine ⟨a, ys, us, rfl, q1, p1.keep fun b xs hb => hb.same S.z, by rw [← Paired.length p2, List.length_map]; exact hl, fun p hp => ?_⟩
    have S' := S.newO hp (o := .dK (xY [] us)) (oo := .dK _) (by intro _ h; cases h) ⟨_, zx, qa p2 .nil⟩
    exact k _ _ _ _ _ (Le.refl _) S' xG (h p (S.free hp).2.1)
end L2
namespace L2
open PySem PySem.Spec PyProof.Rows
theorem Zx {acc : Array Value} {n : Nat} {f : Nat → Int} (h : acc.size = n) (g : ∀ j v, acc[j]? = some v → ∃ t, v = Value.int (f j) t) : Vals ((List.range n).map fun j => V.int (f j)) acc.toList := by
  have key : ∀ (l : List Value) (k : Nat), (∀ j v, l[j]? = some v → ∃ t, v = Value.int (f (k + j)) t) → Vals ((List.range' k l.length).map fun j => V.int (f j)) l := by
    intro l
    induction l with
    | nil => intro k _; exact .nil
    | cons v l ih =>
      intro k hk
      obtain ⟨t, e⟩ := hk 0 v rfl
      refine .cons ⟨t, by rw [e]; rfl⟩ (ih (k + 1) fun j u hu => ?_)
      obtain ⟨t', e'⟩ := hk (j + 1) u (by simpa using hu)
      exact ⟨t', by rw [e']; congr 2; omega⟩
  have h1 := key acc.toList 0 (fun j v hj => by rw [Nat.zero_add]; exact g j v (by rw [← Array.getElem?_toList]; exact hj))
  rw [List.range_eq_range', ← h]
  simpa using h1
section
variable {X : Cx} {K : PySem.W.Frag}
noncomputable def zdm : List V → Hp → VK → Prop := fun xs H Q => ∃ a kvs, ∃ ns : List Int, xs = [.ref a] ∧ H a = some (.dK kvs) ∧ kvs.map (·.1) = ns.map (Sum.inl : Int → Key) ∧ ns.length < 64 ∧ ∀ p, H p = none → Q (.ref p) (upd H p (.lst (ns.map V.int)))
theorem zdn (hc : X.calm = true) : y9 X (.type "list") zdm := by
  intro pins s σ H xs us Q I r h
  obtain ⟨a, kvs, ns, rfl, e, hk, hl, q⟩ := h
  obtain ⟨u, rfl, ru⟩ := r.one
  cases ru
  obtain ⟨z, hd, vs, rel, dd⟩ := Zf I.hok e
  obtain ⟨ep, hat⟩ := dd.dictAt
  have kk := rel.keys
  rw [hk] at kk
  have hlen : ns.length = vs.length := by have := congrArg List.length kk; simpa using this
  refine PySem.W.kdl_call (PySem.W.kdl_dict (knd := yV X.prog X.w) (kvs := vs) (ep := ep) hd) (I.ok.hd hc) hat (by rw [sizeLine_eq]; omega) fun h' tk acc c hk' hD hacc => ?_
  have hv : Vals (ns.map V.int) acc.toList := by
    have h1 := Zx (acc := acc) (n := ns.length) (f := fun j => ns.getD j 0) (by rw [hacc.1, hlen]) fun j v hj => by
      obtain ⟨k, x, hx, hkv⟩ := hacc.2 j v hj
      have h2 : (vs.map (·.1))[j]? = some k := by rw [List.getElem?_map, hx]; rfl
      rw [← kk, List.getElem?_map] at h2
      cases hn : ns[j]? with
      | none => rw [hn] at h2; cases h2
      | some i =>
        rw [hn] at h2
        have h3 : (Sum.inl i : Key) = k := Option.some.inj h2
        subst h3
        rcases xh (k := Sum.inl i) (show qz (Sum.inl i) v = true from hkv) with ⟨i', t, e1, e2⟩ | ⟨x', t, e1, e2⟩
        · cases e1
          exact ⟨t, by rw [e2, List.getD_eq_getElem?_getD, hn]; rfl⟩
        · cases e1
    have e2 : ((List.range ns.length).map fun j => V.int (ns.getD j 0)) = ns.map V.int := by
      apply List.ext_getElem
      · simp
      · intro i h1 h2
        simp at h1 h2 ⊢
        rw [List.getElem?_eq_getElem h2]; rfl
    rw [e2] at h1
    exact h1
  refine ⟨.ref s.heap.objs.size, _, I.laid (a := s.heap.objs.size) (o := .lst (ns.map V.int)) (t' := tk) hk' (Nat.le_refl _) ⟨by rw [List.length_map, sizeLine_eq]; omega, acc.toList, c, hv, by rw [Array.toArray_toList]; exact hD⟩, rfl, q _ (I.hok.fresh (Nat.le_refl _))⟩
noncomputable def Qe (p : Addr) (i j c : Int) : HO := .ext fun h => ∃ t u v, IsRange h p i j c t u v
noncomputable def zaL (ta : TA) : TE := fun σ H Q => ta σ H fun vs H1 => ∃ (i j c : Int) (n : Nat), vs = [.int i, .int j, .int c] ∧ R3 i j c n ∧ ∀ p, H1 p = none → Q (.ref p) (upd H1 p (Qe p i j c))
theorem zbQ {a b c : Expr} {ta : TA} {p pos : Pos} (hg : Gl X "range") (hm : X.mg "range" = none) (ha : PA X [a, b, c] ta) (hs : starEach [a, b, c] X.env = (false, eval a X.env) :: starEach [b, c] X.env := by rfl)
    (hs2 : (backTo pos (starEach [b, c] X.env)).any (·.1) = false := by rfl) : PE X (.Call (.Name "range" p) [a, b, c] [] pos) (zaL ta) := by
  intro pins s σ H R I h
  refine Call_ (uy I hg hm boot_range (PyProof.Rows.callWith_type1 (thn (ha pos pins s σ H _ I h) fun us s1 ⟨vs, H1, I1, r1, q1⟩ => ?_) hs hs2))
  obtain ⟨i, j, k, n, e, ⟨k0, sm, sz, dv⟩, q⟩ := q1
  subst e
  cases r1 with
  | cons r rr =>
    cases rr with
    | cons r' rr =>
      cases rr with
      | cons r2 rr =>
        cases rr
        obtain ⟨t, rfl⟩ := r
        obtain ⟨t', rfl⟩ := r'
        obtain ⟨t2, rfl⟩ := r2
        refine call_range_3 k0 ?_ (.inl dv)
        have hn : (s1.heap.push { cls := .type "range", data := .fields #[.int i t, .int j t', .int k t2] }).get? s1.heap.objs.size = some { cls := .type "range", data := .fields #[.int i t, .int j t', .int k t2] } := Heap.get?_push_size _ rfl
        exact ⟨.ref s1.heap.objs.size, _, I1.laid (o := Qe s1.heap.objs.size i j k) (t' := s1.toks) (fun b o e => Heap.get?_push_of_some _ e) (Nat.le_refl _) ⟨⟨t, t', t2, hn⟩, ⟨_, hn⟩, fun h1 h2 ⟨t, u, v, hr⟩ hh => ⟨t, u, v, hh _ hr⟩⟩, rfl, q _ (I1.hok.fresh (Nat.le_refl _))⟩
noncomputable def zdo : List V → Hp → VK → Prop := fun xs H Q => ∃ p i j c n, xs = [.ref p] ∧ H p = some (Qe p i j c) ∧ R3 i j c n ∧ n ≤ 1000 ∧ ∀ l, H l = none → Q (.ref l) (upd H l (.lst ((List.range n).map fun (k : Nat) => V.int (i + k * c))))
theorem zdp (hc : X.calm = true) : y9 X (.type "list") zdo := by
  intro pins s σ H xs us Q I r h
  obtain ⟨p, i, j, c, n, rfl, e, ⟨k0, sm, sz, dv⟩, hl, q⟩ := h
  obtain ⟨u, rfl, ru⟩ := r.one
  cases ru
  obtain ⟨⟨t, u, v, hr⟩, _, _⟩ := I.hok _ _ e
  refine call_list_range (I.ok.hd hc) hr sm sz (by omega) fun h' tk acc c' hk hD hacc => ?_
  refine ⟨.ref s.heap.objs.size, _, I.laid (a := s.heap.objs.size) (o := .lst ((List.range n).map fun (k : Nat) => V.int (i + k * c))) (t' := tk) hk (Nat.le_refl _) ⟨by simp; exact uv hl, acc.toList, c', Zx hacc.1 hacc.2, by rw [Array.toArray_toList]; exact hD⟩, rfl, q _ (I.hok.fresh (Nat.le_refl _))⟩
noncomputable def zaM (K : PySem.W.Frag) : List V → Hp → VK → Prop := zal K
theorem zbR (hK : X.K = K) : y9 X (.builtin "sorted") (zaM K) := by subst hK; exact Xo
noncomputable def Jn (T : TAW) : TEW := fun ρ O R => T ρ O fun ws O1 => ∃ (i j c : Int) (n : Nat), ws = [.d (.int i), .d (.int j), .d (.int c)] ∧ R3 i j c n ∧ n ≤ 1000 ∧ R (.d (.list ((List.range n).map fun (k : Nat) => .int (i + k * c)))) O1
theorem ur {Z : Hp} : ∀ ns : List Int, Reps K Z (ns.map PyData.int) (ns.map V.int)
  | [] => rfl
  | n :: ns => ⟨_, _, rfl, rfl, ur ns⟩
theorem Yv {t : TA} {T : TAW} (h : xF K t T) : RefE K (tCB zdo (j4 (zaL t) jq)) (Jn T) := by
  intro Γ O H ρ σ S r Q R hT k
  refine h _ _ _ _ _ S r _ _ hT fun Γ1 O1 H1 ws vs l1 S1 rs h1 => ?_
  obtain ⟨i, j, c, n, rfl, r3, hl, h1⟩ := h1
  cases rs with
  | cons rx t => cases t with
    | cons ry t => cases t with
      | cons rz t =>
        cases t
        refine ⟨i, j, c, n, by rw [show _ = V.int i from rx, show _ = V.int j from ry, show _ = V.int c from rz], r3, fun p hp => ?_⟩
        refine ⟨p, i, j, c, n, rfl, zx, r3, hl, fun l hl' => ?_⟩
        have S2 := S1.junk hp (Qe p i j c)
        have hr := ur (K := K) (Z := Γ1.Z) ((List.range n).map fun (k : Nat) => i + k * c)
        rw [List.map_map, List.map_map] at hr
        obtain ⟨Γ', l', S', r'⟩ := uC S2 hr hl'
        exact k _ _ _ _ _ (l1.trans l') S' r' h1
noncomputable def zdq : List W → OM → WK → Prop := fun xs O R => ∃ a kvs, ∃ ns : List Int, xs = [.own a] ∧ O a = some (.dK kvs) ∧ kvs.map (·.1) = ns.map (Sum.inl : Int → Key) ∧ ns.length < 64 ∧ R (.d (.list (ns.map .int))) O
theorem Qf {Γ : Gh} {kvs : List (Key × W)} {vs : List (Key × V)} (h : yP K Γ kvs vs) : kvs.map (·.1) = vs.map (·.1) := by
  unfold yP at h
  induction h with
  | nil => rfl
  | cons a b ih => rw [List.map_cons, List.map_cons, a.1, ih]
theorem zd5 : RefC K zdm zdq := by
  rintro Γ O H xs vs S rs Q R ⟨a, kvs, ns, rfl, ho, hk, hl, h⟩ k
  cases rs with
  | cons rx t =>
    cases t
    obtain ⟨_, us, q1, q2⟩ := S.o _ _ ho
    refine ⟨a, us, ns, by rw [show _ = V.ref a from rx], q1, by rw [← Qf q2]; exact hk, hl, fun p hp => ?_⟩
    obtain ⟨Γ', l', S', r'⟩ := uC S (ur ns) hp
    exact k _ _ _ _ _ l' S' r' h
noncomputable def zaN : List W → OM → WK → Prop := fun xs O R => ∃ w, ∃ ns : List Int, xs = [w] ∧ yR O w = some ((ns.map .int).map .d) ∧ ns.length < 64 ∧ R (.d (.list ((srt ns).map .int))) O
theorem jC {Z : Hp} : ∀ {ns : List Int} {vs : List V}, Reps K Z (ns.map PyData.int) vs → vs = ns.map V.int
  | [], _, h => h
  | n :: ns, _, h => by
    obtain ⟨x, r, rfl, h1, h2⟩ := h
    rw [show x = V.int n from h1, jC h2]
    rfl
theorem zd6 : RefC K (zaM K) zaN := by
  rintro Γ O H xs vs S rs Q R ⟨w, ns, rfl, e, hl, h⟩ k
  cases rs with
  | cons rx t =>
    cases t
    obtain ⟨a, us, rfl, q1, q2⟩ := xy S rx e
    have hu := jC (yy q2)
    subst hu
    refine ⟨a, ns, rfl, q1, hl, fun p hp => ?_⟩
    obtain ⟨Γ', l', S', r'⟩ := uC S (ur (srt ns)) hp
    exact k _ _ _ _ _ l' S' r' h
end
end L2
namespace L2
open PySem PySem.Spec PyProof.Rows
structure OwnAt (O : OM) (d q : Addr) (S : ST) : Prop where
  d : O d = some (.dK (ownW q S))
  q : O q = some (.grid (genG S.h S.w S.pic))
noncomputable def ownW0 (q : Addr) (S : ST) : List (Key × W) := (ownW q S).take 13
noncomputable def PicOk (S : ST) : Prop := ∀ i j, i < S.h → j < S.w → okC (S.pic i j)
noncomputable def InWin (S : ST) : Prop := S.home = true → S.top ≤ S.row ∧ S.row ≤ S.bottom ∧ S.left ≤ S.col ∧ S.col ≤ S.right
section
variable {O O' : OM} {d q : Addr} {S : ST}
theorem OwnAt.dq (s : OwnAt O d q S) : d ≠ q := neW s.d s.q (by intro h; cases h)
theorem OwnAt.fld (s : OwnAt O d q S) {S' : ST} (hw : S'.w = S.w) (hh : S'.h = S.h) (hp : S'.pic = S.pic) : OwnAt (updO O d (.dK (ownW q S'))) d q S' :=
  ⟨zl, by rw [zg (Ne.symm s.dq), hw, hh, hp]; exact s.q⟩
theorem OwnAt.pic (s : OwnAt O d q S) {f : PF} : OwnAt (updO O q (.grid (genG S.h S.w f))) d q { S with pic := f } :=
  ⟨by rw [zg s.dq]; exact s.d, zl⟩
theorem OwnAt.keep (s : OwnAt O d q S) {y z : Addr} (b : But O O' y z) (h1 : d ≠ y) (h2 : d ≠ z) (h3 : q ≠ y) (h4 : q ≠ z) : OwnAt O' d q S :=
  ⟨by rw [b _ h1 h2]; exact s.d, by rw [b _ h3 h4]; exact s.q⟩
end
structure Both (O : OM) (C x dx p st kp d q : Addr) (S S' : ST) : Prop where
  s : StAt O C x dx p st kp S
  o : OwnAt O d q S'
  ds : d ≠ st
  pq : p ≠ q
section
variable {O O' : OM} {C x dx p st kp d q : Addr} {S S' S1 : ST}
theorem Both.dx' (b : Both O C x dx p st kp d q S S') : d ≠ x := neW b.o.d b.s.x (by intro h; cases h)
theorem Both.dp (b : Both O C x dx p st kp d q S S') : d ≠ p := neW b.o.d b.s.p (by intro h; cases h)
theorem Both.dk (b : Both O C x dx p st kp d q S S') : d ≠ kp := neW b.o.d b.s.kp (by intro h; cases h)
theorem Both.qx (b : Both O C x dx p st kp d q S S') : q ≠ x := neW b.o.q b.s.x (by intro h; cases h)
theorem Both.qs (b : Both O C x dx p st kp d q S S') : q ≠ st := neW b.o.q b.s.st (by intro h; cases h)
theorem Both.qk (b : Both O C x dx p st kp d q S S') : q ≠ kp := neW b.o.q b.s.kp (by intro h; cases h)
theorem Both.st' (b : Both O C x dx p st kp d q S S') (h : StAt O' C x dx p st kp S1) (k : But O O' x p) : Both O' C x dx p st kp d q S1 S' :=
  ⟨h, b.o.keep k b.dx' b.dp b.qx (Ne.symm b.pq), b.ds, b.pq⟩
theorem Both.ow' (b : Both O C x dx p st kp d q S S') (h : OwnAt O' d q S1) (k : But O O' d q) : Both O' C x dx p st kp d q S S1 :=
  ⟨b.s.keep k (Ne.symm b.dx') (Ne.symm b.qx) (Ne.symm b.dp) b.pq (Ne.symm b.ds) (Ne.symm b.qs) (Ne.symm b.dk) (Ne.symm b.qk), h, b.ds, b.pq⟩
end
noncomputable def XH : SpW := fun ws O R => ∃ c, ws = [.d (.int c)] ∧ Bt 1048600 c ∧ ∀ w h : Nat, 1 ≤ w → w ≤ 24 → 1 ≤ h → h ≤ 12 → R (.d (.tuple [.int w, .int h])) O
noncomputable def XI : SpW := fun ws O R => ∃ (c : Int) (w h : Nat), ws = [.d (.int c), .d (.int w), .d (.int h)] ∧ Bt 1048600 c ∧ w ≤ 24 ∧ h ≤ 12 ∧ ∀ (f : PF) p, (∀ i j, okC (f i j)) → O p = none → R (.own p) (updO O p (.grid (genG h w f)))
noncomputable def jD : SpW := fun ws O R => ∃ d q S, ws = [.own d] ∧ O d = some (.dK (ownW q S)) ∧ R (.d (.int (eR S))) O
noncomputable def kh : SpW := fun ws O R => ∃ d q S n, ws = [.own d, .d (.int n)] ∧ 0 ≤ n ∧ (O d = some (.dK (ownW q S)) ∨ O d = some (.dK (ownW0 q S))) ∧ 1 ≤ S.h ∧ 1 ≤ S.w ∧ ∀ S', (∃ r c, S' = { S with row := r, col := c }) → (Bds { S with row := 0, col := 0 } → Bds S' ∧ InWin S') → R (.d .none) (updO O d (.dK (ownW q S')))
noncomputable def YZ (k : Int) : Int := if k = 1 then 64 else if k = 2 then 128 else 256
noncomputable def ud (i : Int) : W → Option PyData
  | .d (.int k) => if i / YZ k % 2 = 1 then some (.int k) else none
  | _ => none
noncomputable def qO (i : Int) : List PyData := .int 0 :: (List.filterMap (ud i) [.d (.int 1), .d (.int 2), .d (.int 3)] ++ [.int (10 + i % 8), .int (20 + i / 8 % 8)])
theorem XJ {i : Int} (h : Ink i) : (∀ n ∈ qO i, xM n) ∧ ∀ j, (qO i).foldl vV j = i := by
  obtain ⟨m, rfl⟩ : ∃ m : _root_.Fin 512, i = ((m.val : Nat) : Int) := ⟨⟨i.toNat, by have := h.1; have := h.2; omega⟩, by have := h.1; simp only; omega⟩
  have e : ∀ m : _root_.Fin 512, ((qO ((m.val : Nat) : Int)).tail).foldl vV 0 = ((m.val : Nat) : Int) := by decide +kernel
  refine ⟨fun n hn => ?_, fun j => ?_⟩
  · have h0 := h.1
    unfold qO at hn
    rcases List.mem_cons.mp hn with rfl | hn
    · exact ⟨by decide, by decide⟩
    · rcases List.mem_append.mp hn with hn | hn
      · obtain ⟨v, hv, e1⟩ := List.mem_filterMap.mp hn
        simp at hv
        rcases hv with rfl | rfl | rfl <;> simp only [ud] at e1 <;> split at e1 <;> cases e1 <;> exact ⟨by decide, by decide⟩
      · simp at hn
        rcases hn with rfl | rfl
        · exact ⟨by omega, by omega⟩
        · exact ⟨by omega, by omega⟩
  · have : (qO ((m.val : Nat) : Int)).foldl vV j = ((qO ((m.val : Nat) : Int)).tail).foldl vV 0 := rfl
    rw [this, e m]
noncomputable def Y0 : SpW := fun ws O R => ∃ i, ws = [.d (.int i)] ∧ Ink i ∧ R (.d (.tuple (qO i))) O
noncomputable def sGo (C : Addr) : SpW := fun ws O R => ∃ x dx p st kp d q S S', ws = [.own x, .own d] ∧ Both O C x dx p st kp d q S S' ∧ Bds S' ∧ InWin S' ∧ S.w = S'.w ∧ S.h = S'.h ∧ S.home = S'.home ∧ S.top = S'.top ∧ S.bottom = S'.bottom ∧ S.left = S'.left ∧ S.right = S'.right ∧
  ∀ O', Both O' C x dx p st kp d q { S with row := S'.row, col := S'.col, late := false } S' → But O O' x p → R (.d .none) O'
noncomputable def xC (S : ST) : Prop := PicOk S ∧ SeqAt.shaped S.last = true ∧ PyData.eqv S.last S.last = true
structure Drawn (S : ST) : Prop where
  b : Bds S
  ok : PicOk S
  win : InWin S
  last : S.last = .none ∨ ∃ c, S.last = .str c ∧ S.pic S.row.toNat S.col.toNat = (c, S.ink)
  late : S.late = true → S.col = eR S ∧ S.last ≠ .none
theorem XL {c : Str} (h : PyData.strOk c = true) : SeqAt.shaped (.str c) = true ∧ PyData.eqv (.str c) (.str c) = true :=
  ⟨by simp [SeqAt.shaped, PyData.canLay0, PyData.depth, h], by simp [PyData.eqv]⟩
theorem Drawn.all {S : ST} (h : Drawn S) : xC S := by
  refine ⟨h.ok, ?_⟩
  rcases h.last with e | ⟨c, e, e2⟩
  · rw [e]; exact ⟨rfl, rfl⟩
  · have h0 := h.ok S.row.toNat S.col.toNat (by have := h.b.r0; have := h.b.r1; omega) (by have := h.b.c0; have := h.b.c1; omega)
    rw [e2] at h0
    rw [e]
    exact XL h0
noncomputable def XM : SpW := fun ws O R => ∃ ns : List Int, ws = [.d (.list (ns.map .int))] ∧ (∀ n ∈ ns, Bt 1048590 n) ∧ ∀ d q S O', O d = none → O q = none → OwnAt O' d q S → Drawn S → (∀ b, b ≠ d → b ≠ q → O b ≠ none → O' b = O b) → R (.own d) O'
noncomputable def XN (C : Addr) : SpW := fun ws O R => ∃ d q S, ws = [.own d] ∧ OwnAt O d q S ∧ Drawn S ∧ ∀ x dx p st kp O', Both O' C x dx p st kp d q S S → (∀ b, b ≠ x → b ≠ p → b ≠ st → b ≠ kp → O b ≠ none → O' b = O b) → R (.own x) O'
noncomputable def XO (C : Addr) : SpW := fun ws O R => ∃ x dx p st kp d q S, ws = [.own x, .own d] ∧ Both O C x dx p st kp d q S S ∧ Bds S ∧ xC S ∧ R (.d (.bool true)) O
noncomputable def KQ : SpW := fun ws O R => ∃ d q S, ws = [.own d] ∧ O d = some (.dK (ownW q S)) ∧ R (.d (.tuple [.int S.top, .int S.bottom, .int S.left, .int S.right])) O
noncomputable def Zy : SpW := fun ws O R => ∃ d q S t b l r dn ac, ws = [.own d, .d (.tuple [.int t, .int b, .int l, .int r]), .d (.int dn), .d (.int ac)] ∧ OwnAt O d q S ∧ Bds S ∧ 0 ≤ t ∧ t ≤ b ∧ b < S.h ∧ 0 ≤ l ∧ l ≤ r ∧ r < S.w ∧ -2000000 ≤ dn ∧ dn ≤ 2000000 ∧ -2000000 ≤ ac ∧ ac ≤ 2000000 ∧
  ∀ q' O', O q' = none → OwnAt O' d q' (mvS t b l r dn ac S) → (∀ b, b ≠ d → b ≠ q' → O' b = O b) → R (.d .none) O'
noncomputable def zsA : Str := Str.ofString " !$&()*+,-./0123456789:;<=>?@ABCDEFGHIJKLMNOPQRSTUVWXYZ"
noncomputable def zsB : Str := Str.ofString "[]^_abcdefghijklmnopqrstuvwxyz{|}~"
theorem zdr : (zsA ++ zsB).length = 89 := by decide +kernel
theorem zbS : zsA.length + zsB.length ≤ sizeLine := by rw [sizeLine_eq]; decide +kernel
theorem zd7 : ∀ k : _root_.Fin 89, PyData.strOk ⟨#[(zsA ++ zsB).cps.toList.getD k.val 0]⟩ = true := by decide +kernel
theorem zd8 {k : Int} (h0 : 0 ≤ k) (h1 : k < 89) : atI (zsA ++ zsB).cps.toList k = some ((zsA ++ zsB).cps.toList.getD k.toNat 0) := by
  obtain ⟨n, rfl⟩ := Int.eq_ofNat_of_zero_le h0
  refine vN ?_
  have hl : (zsA ++ zsB).cps.toList.length = 89 := by decide +kernel
  rw [List.getD_eq_getElem?_getD]
  have : n < (zsA ++ zsB).cps.toList.length := by rw [hl]; omega
  simp [List.getElem?_eq_getElem this]
noncomputable def xX (c : Int) : PF := fun i j => (⟨#[(zsA ++ zsB).cps.toList.getD ((xW c 51 / 8 + 7 * (24 * (i : Int) + (j : Int))) % 89).toNat 0]⟩, xW c (60 + (24 * (i : Int) + (j : Int))) / 8 % 512)
theorem KR (c : Int) (i j : Nat) : okC (xX c i j) := by
  have := zd7 ⟨((xW c 51 / 8 + 7 * (24 * (i : Int) + (j : Int))) % 89).toNat, by omega⟩
  exact this
theorem Jo {h w : Nat} {f : PF} : genG (h + 1) w f = genG h w f ++ [(List.range w).map fun j => yo (f h j)] := by
  unfold genG
  rw [List.range_succ, List.map_append]
  rfl
theorem Jp {O : OM} {p l : Addr} {g1 g2 : OO} {u : OO} (hp : O p = none) (hl : updO O p g1 l = none) : updO (del (updO (updO O p g1) l u) l) p g2 = updO O p g2 := by
  have hlp : l ≠ p := fun e => by rw [e, zl] at hl; cases hl
  rw [zg hlp] at hl
  funext b
  by_cases hb : b = p
  · subst hb; rw [zl, zl]
  · rw [zg hb, zg hb]
    by_cases hbl : b = l
    · subst hbl; rw [xv, hl]
    · rw [xI hbl, zg hbl, zg hb]
theorem Both.ow2 {O O' : OM} {C x dx p st kp d q q' : Addr} {S S' S1 : ST} (b : Both O C x dx p st kp d q S S') (h : OwnAt O' d q' S1) (hq : O q' = none) (k : ∀ b, b ≠ d → b ≠ q' → O' b = O b) : Both O' C x dx p st kp d q' S S1 :=
  ⟨b.s.keep (fun c h1 h2 => k c h1 h2) (Ne.symm b.dx') (neO b.s.x hq) (Ne.symm b.dp) (neO b.s.p hq) (Ne.symm b.ds) (neO b.s.st hq) (Ne.symm b.dk) (neO b.s.kp hq), h, b.ds, neO b.s.p hq⟩
theorem zeA {kvs : List (Key × W)} {q : Addr} {S : ST} (h : kvs = ownW q S ∨ kvs = ownW0 q S) : xl kvs (Sum.inr (Str.ofString "high")) = some (.d (.int S.h)) ∧ xl kvs (Sum.inr (Str.ofString "wide")) = some (.d (.int S.w)) ∧ xl kvs (Sum.inr (Str.ofString "bottom")) = some (.d (.int S.bottom)) ∧
    xl kvs (Sum.inr (Str.ofString "top")) = some (.d (.int S.top)) ∧ xl kvs (Sum.inr (Str.ofString "right")) = some (.d (.int S.right)) ∧ xl kvs (Sum.inr (Str.ofString "left")) = some (.d (.int S.left)) ∧ xl kvs (Sum.inr (Str.ofString "home")) = some (.d (.bool S.home)) ∧
    kvs.length < 1000 ∧ (∀ r, (yT kvs (Sum.inr (Str.ofString "row")) r).length < 1000) ∧ ∀ r c, yT (yT kvs (Sum.inr (Str.ofString "row")) (.d (.int r))) (Sum.inr (Str.ofString "column")) (.d (.int c)) = ownW q { S with row := r, col := c } := by
  rcases h with rfl | rfl
  · exact ⟨rfl, rfl, rfl, rfl, rfl, rfl, rfl, by show (15 : Nat) < 1000; decide, fun r => by show (15 : Nat) < 1000; decide, fun r c => rfl⟩
  · exact ⟨rfl, rfl, rfl, rfl, rfl, rfl, rfl, by show (13 : Nat) < 1000; decide, fun r => by show (14 : Nat) < 1000; decide, fun r c => rfl⟩
end L2
namespace L2
theorem Jq {f : PF} {i j : Nat} {a b : Cel} : setF (setF f i j a) i j b = setF f i j b := by
  funext x y
  unfold setF
  split <;> rfl
theorem Jr {f : PF} {i j : Nat} {a : Cel} (h : f i j = a) : setF f i j a = f := by
  funext x y
  unfold setF
  split
  · rename_i e; rw [e.1, e.2, h]
  · rfl
end L2
namespace L2
open PySem PySem.Spec PyProof.Rows
noncomputable def Old (O O' : OM) : Prop := ∀ b, O b ≠ none → O' b = O b
theorem Old.refl {O : OM} : Old O O := fun _ _ => rfl
theorem Old.upd {O O' : OM} {a : Addr} {o : OO} (h : Old O O') (ha : O a = none) : Old O (updO O' a o) := fun b hb => by
  rw [zg (fun e => by rw [e] at hb; exact hb ha)]; exact h b hb
theorem Old.new {O O' : OM} {a : Addr} (h : Old O O') (ha : O' a = none) : O a = none := by
  cases e : O a with
  | none => rfl
  | some o => rw [h a (by rw [e]; simp)] at ha; rw [ha] at e; cases e
section
variable {q : Addr} {S : ST} {a b : Int} {u : Bool} {l : PyData}
theorem Js : yT ((ownW q S).take 7) (Sum.inr (Str.ofString "bottom")) (.d (.int a)) = (ownW q { S with bottom := a }).take 7 := rfl
theorem KS : yT ((ownW q S).take 7) (Sum.inr (Str.ofString "right")) (.d (.int a)) = (ownW q { S with right := a }).take 7 := rfl
theorem zbT : xl ((ownW q S).take 7) (Sum.inr (Str.ofString "top")) = some (.d (.int S.top)) := rfl
theorem KU : xl ((ownW q S).take 7) (Sum.inr (Str.ofString "left")) = some (.d (.int S.left)) := rfl
theorem t8 : yT ((ownW q S).take 7) (Sum.inr (Str.ofString "home")) (.d (.bool u)) = (ownW q { S with home := u }).take 8 := rfl
theorem t9 : yT ((ownW q S).take 8) (Sum.inr (Str.ofString "putting")) (.d (.bool u)) = (ownW q { S with putting := u }).take 9 := rfl
theorem t10 : yT ((ownW q S).take 9) (Sum.inr (Str.ofString "wrap")) (.d (.bool u)) = (ownW q { S with wrap := u }).take 10 := rfl
theorem t11 : yT ((ownW q S).take 10) (Sum.inr (Str.ofString "last")) (.d l) = (ownW q { S with last := l }).take 11 := rfl
theorem t12 : yT ((ownW q S).take 11) (Sum.inr (Str.ofString "late")) (.d (.bool u)) = (ownW q { S with late := u }).take 12 := rfl
theorem t13 : yT ((ownW q S).take 12) (Sum.inr (Str.ofString "ink")) (.d (.int a)) = ownW0 q { S with ink := a } := rfl
theorem jE {n : Nat} : ((ownW q S).take n).length < 1000 := by
  rw [List.length_take, xm]; omega
end
end L2
namespace L2
open PySem PySem.Spec PyProof.Rows
theorem Ua {S : ST} (h : Bds S) : eR { S with col := eR S } = eR S := by
  have := h.rr
  have := h.c1
  have e : eR S = S.right ∨ (eR S = S.w - 1 ∧ S.right < S.w - 1) := by
    unfold eR
    split
    · exact .inl rfl
    · exact .inr ⟨rfl, by omega⟩
  show (if eR S ≤ S.right then S.right else (S.w : Int) - 1) = eR S
  rcases e with e | ⟨e, e2⟩
  · rw [e, if_pos (Int.le_refl _)]
  · rw [e, if_neg (by omega)]
theorem PicOk.set {S : ST} {i j : Nat} {c : Str} {k : Int} (h : PicOk S) (hc : PyData.strOk c = true) : PicOk { S with pic := setF S.pic i j (c, k) } := by
  intro x y hx hy
  show okC (setF S.pic i j (c, k) x y)
  unfold setF
  split
  · exact hc
  · exact h x y hx hy
theorem PicOk.mv {S : ST} {t b l r dn ac : Int} (h : PicOk S) (h0 : 0 ≤ t) (hb : b < S.h) (hl : 0 ≤ l) (hr : r < S.w) : PicOk (mvS t b l r dn ac S) := by
  intro x y hx hy
  show okC (mvP S.pic S.ink t b l r dn ac x y)
  unfold mvP
  split
  · split
    · exact h _ _ (by simp only [mvS] at *; omega) (by simp only [mvS] at *; omega)
    · show PyData.strOk (Str.ofString " ") = true
      decide +kernel
  · exact h x y hx hy
end L2
namespace L2
open PySem PySem.Spec PyProof.Rows
theorem StAt.picEq {O : OM} {C x dx p st kp : Addr} {S : ST} {f g : PF} (s : StAt O C x dx p st kp { S with pic := f }) (e : ∀ i j, i < S.h → j < S.w → f i j = g i j) : StAt O C x dx p st kp { S with pic := g } :=
  ⟨s.x, by rw [← UY e]; exact s.p, s.st, s.kp⟩
theorem Yw {n : Int} (h : 0 ≤ n) : xn (.int (n + 1)) = n + 1 := by simp only [xn]; split <;> omega
theorem Yx {n m : Int} (h : 0 ≤ n) (h1 : n < m) : vh (.int (n + 1)) m = n + 1 := by
  simp only [vh]
  rw [if_neg (by omega), if_neg (by omega)]
theorem u3 {a b : Int} (h : a ≤ b) : x6 .none a b = a := by
  show (if b < a + 1 - 1 then b else a + 1 - 1) = a
  rw [if_neg (by omega)]
  omega
theorem KW {t b : Int} {S : ST} (h0 : 0 ≤ t) (h1 : t ≤ b) (h2 : b < S.h) (hm : S.home = false) (hw : 1 ≤ S.w) : YV (.int (t + 1)) (.int (b + 1)) S = { S with top := t, bottom := b, row := 0, col := 0, late := false } := by
  unfold YV
  rw [Yw h0, Yx (by omega) h2, if_neg (by omega)]
  have e1 : t + 1 - 1 = t := by omega
  have e2 : b + 1 - 1 = b := by omega
  rw [e1, e2]
  unfold plS
  rw [if_neg (by show ¬ S.home = true; rw [hm]; decide)]
  show ({ S with top := t, bottom := b, row := x6 .none 0 (S.h - 1), col := x6 .none 0 (S.w - 1), late := false } : ST) = _
  rw [u3 (by omega), u3 (by omega)]
theorem KY {t b : Int} {S : ST} (h0 : 0 ≤ t) (h1 : t ≤ b) (h2 : b < S.w) (hm : S.home = false) (hh : 1 ≤ S.h) : YW (.int (t + 1)) (.int (b + 1)) S = { S with left := t, right := b, row := 0, col := 0, late := false } := by
  unfold YW
  rw [Yw h0, Yx (by omega) h2, if_neg (by omega)]
  have e1 : t + 1 - 1 = t := by omega
  have e2 : b + 1 - 1 = b := by omega
  rw [e1, e2]
  unfold plS
  rw [if_neg (by show ¬ S.home = true; rw [hm]; decide)]
  show ({ S with left := t, right := b, row := x6 .none 0 (S.h - 1), col := x6 .none 0 (S.w - 1), late := false } : ST) = _
  rw [u3 (by omega), u3 (by omega)]
theorem KZ {u : Bool} {S : ST} : ∃ r c, YX 3 u S = { S with home := u, row := r, col := c, late := false } := by
  unfold YX
  rw [if_neg (by decide), if_neg (by decide), if_pos rfl]
  unfold plS
  split
  · exact ⟨_, _, rfl⟩
  · exact ⟨_, _, rfl⟩
theorem K0 {c : Str} {S : ST} (hl : S.late = false) (hp : S.putting = false) (hc : S.pic S.row.toNat S.col.toNat = (c, S.ink)) : vE c S = if S.col < eR S then { S with last := .str c, col := S.col + 1 } else { S with last := .str c, late := S.wrap } := by
  rw [vz]
  have e1 : pA S = S := by unfold pA; rw [if_neg (by rw [hl]; simp)]
  have e2 : pB S = S := by unfold pB; rw [← hl]
  have e3 : pC S = S := by unfold pC; rw [if_neg (by rw [hp]; decide)]
  have e4 : pD c S = S := by unfold pD; rw [Jr hc]
  rw [e1, e2, e3, e4]
  unfold pF pE
  rfl
end L2
namespace L2
open PySem PySem.Spec PyProof.Rows
theorem K1 {c : Str} {S : ST} (hB : Bds S) (hl : S.late = false) (hc : S.col = eR S) : vE c S = { S with pic := setF S.pic S.row.toNat S.col.toNat (c, S.ink), last := .str c, late := S.wrap } := by
  rw [vz]
  have e1 : pA S = S := by unfold pA; rw [if_neg (by rw [hl]; simp)]
  have e2 : pB S = S := by unfold pB; rw [← hl]
  rw [e1, e2]
  have e3 : ∃ g, pC S = { S with pic := g } ∧ setF g S.row.toNat S.col.toNat (c, S.ink) = setF S.pic S.row.toNat S.col.toNat (c, S.ink) := by
    unfold pC
    split
    · refine ⟨mvP S.pic S.ink S.row S.row S.col (eR S) 0 (-1), ?_, ?_⟩
      · unfold qv mvS
        rw [← hl]
      · funext a b
        unfold setF
        split
        · rfl
        · rename_i e
          exact xD (by have := hB.r0; have := hB.c0; omega)
    · exact ⟨S.pic, rfl, rfl⟩
  obtain ⟨g, e3, e4⟩ := e3
  rw [e3]
  unfold pF pE pD
  simp only
  rw [e4]
  have e5 : eR { S with pic := setF S.pic S.row.toNat S.col.toNat (c, S.ink), last := .str c } = eR S := rfl
  rw [if_neg (by rw [e5]; omega)]
noncomputable def Qg : SpW := fun ws O R => ∃ d q S, ws = [.own d] ∧ O d = some (.dK (ownW q S)) ∧ S.w ≤ 24 ∧ S.h ≤ 12 ∧ ∀ m : Int, 0 ≤ m → m ≤ 63 → R (.d (.int m)) O
noncomputable def sLaw : SpW := fun ws O R => ∃ ns : List Int, ws = [.d (.list (ns.map .int))] ∧ (∀ n ∈ ns, Bt 1048580 n) ∧ ns.length ≤ 63 ∧ ∀ O', R (.d (.bool true)) O'
end L2
namespace L2
open PySem PySem.Spec PyProof.Rows
theorem Y1 {T1 T2 U : TSW} {D : EndsW} {ρ : WS} {O : OM} (J : WS → OM → Prop) (ht : ∀ R : WS → OM → Prop, (∀ ρ' O', J ρ' O' → R ρ' O') → vR T1 T2 { D with nx := R } ρ O) (hu : ∀ ρ' O', J ρ' O' → U D ρ' O') : vR T1 (vR T2 U) D ρ O := ht (U D) hu
end L2
namespace L2
open PySem PySem.Spec PyProof.Rows
noncomputable def K2 (C : Addr) : SpW := fun ws O R => ∃ x dx p st kp d q S0 S, ws = [.own d] ∧ Both O C x dx p st kp d q S0 S ∧ Bds S ∧ ∀ q' O', Both O' C x dx p st kp d q' S0 (lineE S) → R (.d .none) O'
theorem xC.roll {S : ST} {a s : Int} (h : xC S) (hB : Bds S) (ha : 0 ≤ a) : xC (YY a s S) := ⟨PicOk.mv h.1 ha hB.b1 hB.l0 hB.rr, h.2⟩
theorem xC.left {S : ST} (h : xC S) : xC (uX S) := h
theorem xC.lineE {S : ST} (h : xC S) (hB : Bds S) : xC (lineE S) := by
  have h1 := h.left
  have hB1 := hB.left
  unfold L2.lineE
  dsimp only
  split
  · exact h1.roll hB1 hB1.t0
  · split
    · exact h1
    · exact h1
end L2
namespace L2
open PySem PySem.Spec PyProof.Rows
end L2
namespace L2
open PySem PySem.Spec PyProof.Rows
theorem StAt.old {O O' : OM} {C x dx p st kp : Addr} {S : ST} (s : StAt O C x dx p st kp S) (h : Old O O') : StAt O' C x dx p st kp S :=
  ⟨by rw [h x (by rw [s.x]; simp)]; exact s.x, by rw [h p (by rw [s.p]; simp)]; exact s.p, by rw [h st (by rw [s.st]; simp)]; exact s.st, by rw [h kp (by rw [s.kp]; simp)]; exact s.kp⟩
theorem Both.old {O O' : OM} {C x dx p st kp d q : Addr} {S S' : ST} (b : Both O C x dx p st kp d q S S') (h : Old O O') : Both O' C x dx p st kp d q S S' :=
  ⟨b.s.old h, ⟨by rw [h d (by rw [b.o.d]; simp)]; exact b.o.d, by rw [h q (by rw [b.o.q]; simp)]; exact b.o.q⟩, b.ds, b.pq⟩
end L2
namespace L2
open PySem PySem.Spec PyProof.Rows
section
variable {K : PySem.W.Frag}
end
inductive Lt where
  | R | D | i | k | s | x | e | w
noncomputable def Lt.str : Lt → Str
  | .R => "R"
  | .D => "D"
  | .i => "i"
  | .k => "k"
  | .s => "s"
  | .x => "x"
  | .e => "e"
  | .w => "w"
theorem Lt.isI {l : Lt} : (l.str = Str.ofString "i") = (match l with | .i => True | _ => False) := by cases l <;> simp [Lt.str] <;> decide +kernel
noncomputable def Frm (S : ST) (v : Cel) (z : PyData) : Prop := (z = .none ∧ v = xo S.ink) ∨ ∃ r c : Int, z = .tuple [.int r, .int c] ∧ 0 ≤ r ∧ r < S.h ∧ 0 ≤ c ∧ c < S.w ∧ v = atF S.pic r c
theorem Frm.here {S : ST} {r c : Nat} (hr : r < S.h) (hc : c < S.w) : Frm S (S.pic r c) (.tuple [.int r, .int c]) := .inr ⟨r, c, rfl, by omega, by omega, by omega, by omega, by simp [atF]⟩
noncomputable def Zz (C : Addr) : SpW := fun ws O R => ∃ x dx p st kp d q S0 S c, ws = [.own d, .d (.str c)] ∧ Both O C x dx p st kp d q S0 S ∧ Bds S ∧ ∀ q' O', Both O' C x dx p st kp d q' S0 (vE c S) → R (.d .none) O'
theorem Bds.put {c : Str} {S : ST} (h : Bds S) : Bds (vE c S) := by
  rw [vz]
  exact (show Bds (L2.pE c (L2.pD c (L2.pC (L2.pB (L2.pA S))))) from { h.pA.pB.pC with }).pF
theorem xC.put {c : Str} {S : ST} (h : xC S) (hB : Bds S) (hc : PyData.strOk c = true) : xC (vE c S) := by
  rw [vz]
  have h1 : xC (pA S) := by
    unfold pA
    split
    · exact h.lineE hB
    · exact h
  have h2 : xC (pB (pA S)) := h1
  have hB2 := hB.pA.pB
  generalize pB (pA S) = S2 at *
  have h3 : xC (pC S2) := by
    unfold pC
    split
    · exact ⟨PicOk.mv h2.1 hB2.r0 hB2.r1 hB2.c0 (qM hB2).2, h2.2⟩
    · exact h2
  generalize pC S2 = S3 at *
  have h4 : xC (pE c (pD c S3)) := ⟨PicOk.set h3.1 hc, XL hc⟩
  generalize pE c (pD c S3) = S4 at *
  unfold pF
  split
  · exact h4
  · exact h4
end L2
namespace L2
open PySem PySem.Spec PyProof.Rows
structure LeW (Γ Γ' : Gh) : Prop where
  f : Γ'.F = Γ.F
  z : Same Γ.Z Γ'.Z
theorem Le.w {Γ Γ' : Gh} (h : Le Γ Γ') : LeW Γ Γ' := ⟨h.f, h.z⟩
theorem LeW.trans {Γ Γ1 Γ2 : Gh} (a : LeW Γ Γ1) (b : LeW Γ1 Γ2) : LeW Γ Γ2 := ⟨b.f.trans a.f, a.z.trans b.z⟩
noncomputable def va : W → Prop
  | .row _ _ => False
  | _ => True
noncomputable def qb : Option W → Prop
  | some w => va w
  | none => True
noncomputable def qP : WS → Prop
  | [] => True
  | o :: ρ => qb o ∧ qP ρ
section
variable {K : PySem.W.Frag}
theorem relW.weak {Γ Γ' : Gh} (l : LeW Γ Γ') : ∀ {w : W} {v : V}, va w → relW K Γ w v → relW K Γ' w v
  | .d x, v, _, r => Rep.same l.z x v r
  | .own a, v, _, r => r
  | .row _ _, _, h, _ => h.elim
theorem relR.weak {Γ Γ' : Gh} (l : LeW Γ Γ') {ρ : WS} {σ : St} (r : relR K Γ ρ σ) : qP ρ → relR K Γ' ρ σ := by
  induction r with
  | nil => exact fun _ => .nil
  | cons a b ih =>
    rename_i x y xs ys
    intro h
    refine .cons ?_ (ih h.2)
    cases x with
    | none => exact trivial
    | some w =>
      cases y with
      | none => exact a.elim
      | some v => exact relW.weak l h.1 a
noncomputable def forR : WS → WS := List.map fun o => match o with
  | some (.row _ _) => none
  | x => x
theorem ug : ∀ ρ : WS, qP (forR ρ)
  | [] => trivial
  | none :: ρ => ⟨trivial, ug ρ⟩
  | some (.d _) :: ρ => ⟨trivial, ug ρ⟩
  | some (.own _) :: ρ => ⟨trivial, ug ρ⟩
  | some (.row _ _) :: ρ => ⟨trivial, ug ρ⟩
theorem relR.forR {Γ : Gh} {ρ : WS} {σ : St} (r : relR K Γ ρ σ) : relR K Γ (forR ρ) σ := by
  induction r with
  | nil => exact .nil
  | cons a b ih =>
    rename_i x y xs ys
    refine .cons ?_ ih
    cases x with
    | none => exact trivial
    | some w =>
      cases w with
      | row _ _ => exact trivial
      | d _ => exact a
      | own _ => exact a
noncomputable def u4 : OO → Prop
  | .lst ws => ∀ w ∈ ws, va w
  | .dK kvs => ∀ p ∈ kvs, va p.2
  | .ins _ _ fs => ∀ p ∈ fs, va p.2
  | .grid _ => True
theorem relWs.weak {Γ Γ' : Gh} (l : LeW Γ Γ') {ws : List W} {vs : List V} (r : relWs K Γ ws vs) : (∀ w ∈ ws, va w) → relWs K Γ' ws vs := by
  induction r with
  | nil => exact fun _ => .nil
  | cons a b ih => exact fun h => .cons (relW.weak l (h _ List.mem_cons_self) a) (ih fun w hw => h w (List.mem_cons_of_mem _ hw))
theorem yP.weak {κ : Type} {Γ Γ' : Gh} (l : LeW Γ Γ') {ws : List (κ × W)} {vs : List (κ × V)} (r : yP K Γ ws vs) : (∀ p ∈ ws, va p.2) → yP K Γ' ws vs := by
  unfold yP at r ⊢
  induction r with
  | nil => exact fun _ => .nil
  | cons a b ih => exact fun h => .cons ⟨a.1, relW.weak l (h _ List.mem_cons_self) a.2⟩ (ih fun w hw => h w (List.mem_cons_of_mem _ hw))
theorem Sim.shrink {Γ : Gh} {O O' : OM} {H : Hp} (S : Sim K Γ O' H) (h : Old O O') : Sim K Γ O H := by
  have k1 : ∀ {x : Addr} {o : OO}, O x = some o → O' x = some o := fun {x o} e => by rw [h x (by rw [e]; simp)]; exact e
  have k0 : ∀ {x : Addr}, O' x = none → O x = none := fun {x} e => by
    cases q : O x with
    | none => rfl
    | some o => rw [k1 q] at e; cases e
  refine ⟨S.z, fun x o e => ?_, S.gd, S.f, fun x o e hn => S.gn x o (k1 e) hn, S.fg, fun x o e => ⟨(S.fd x o e).1, k0 (S.fd x o e).2.1, fun b rows rs e1 => (S.fd x o e).2.2 b rows rs (k1 e1)⟩, fun x b ra rb rs ss r e1 e2 => S.u x b ra rb rs ss r (k1 e1) (k1 e2)⟩
  obtain ⟨h1, h2⟩ := S.o _ _ (k1 e)
  refine ⟨h1, h2.keep (Le.refl _) rfl rfl fun rs r hg ⟨rows, hrw⟩ hr => ?_⟩
  subst hrw
  obtain ⟨_, q2, _⟩ := S.rowIn (k1 e) hg hr
  refine ⟨rfl, rfl, ?_⟩
  rw [q2]
  exact k0 q2
theorem Yy {α : Type} {x : α} : ∀ {l : List α} {i : Nat}, l.Nodup → x ∉ l → (l.set i x).Nodup
  | [], _, h, _ => h
  | a :: l, 0, h, hx => by
    rw [List.set_cons_zero, List.nodup_cons]
    exact ⟨fun m => hx (List.mem_cons_of_mem _ m), (List.nodup_cons.1 h).2⟩
  | a :: l, i + 1, h, hx => by
    rw [List.set_cons_succ, List.nodup_cons]
    obtain ⟨h1, h2⟩ := List.nodup_cons.1 h
    refine ⟨fun m => ?_, Yy h2 fun m => hx (List.mem_cons_of_mem _ m)⟩
    rcases List.mem_or_eq_of_mem_set m with m | m
    · exact h1 m
    · exact hx (by rw [m]; exact List.mem_cons_self)
theorem Sim.swap {Γ : Gh} {O : OM} {H : Hp} {q r : Addr} {rs : List Addr} {rows : List (List PyData)} {cells : List PyData} {i : Nat} (S : Sim K Γ O H) (hO : ∀ a oo, O a = some oo → u4 oo) (hq : O q = some (.grid rows)) (hr : O r = some (.lst (cells.map W.d)))
    (hg : Γ.G q = some rs) (hi : i < rows.length) : Sim K ⟨Γ.Z, fun b => if b = q then some (rs.set i r) else Γ.G b, Γ.F⟩ (del (updO O q (.grid (rows.set i cells))) r) (upd H q (.lst ((rs.map V.ref).set i (.ref r)))) := by
  have nqr : q ≠ r := neW hq hr (by intro h; cases h)
  obtain ⟨zq, rs', hg', hHq, hl, hnd, hrow⟩ := S.o _ _ hq
  rw [hg] at hg'
  cases hg'
  obtain ⟨zr, vs, hHr, hvs⟩ := S.o _ _ hr
  have rmem : ∀ {b : Addr} {rb : List (List PyData)} {ss : List Addr} {a : Addr}, O b = some (.grid rb) → Γ.G b = some ss → a ∈ ss → Γ.Z a = none ∧ O a = none ∧ ∃ us, H a = some (.lst us) := fun {b rb ss a} h1 h2 h3 => by
    obtain ⟨_, ss', h2', _, hl', _, hrow'⟩ := S.o _ _ h1
    rw [h2] at h2'
    cases h2'
    obtain ⟨j, hj⟩ := List.mem_iff_getElem?.1 h3
    have hjl : j < rb.length := by rw [← hl']; exact (List.getElem?_eq_some_iff.1 hj).1
    obtain ⟨a1, a2, us, a3, _⟩ := hrow' j a _ hj (List.getElem?_eq_getElem hjl)
    exact ⟨a1, a2, us, a3⟩
  have rno : r ∉ rs := fun m => by
    have := (rmem hq hg m).2.1
    rw [hr] at this
    cases this
  have lw : LeW Γ ⟨Γ.Z, fun b => if b = q then some (rs.set i r) else Γ.G b, Γ.F⟩ := ⟨rfl, Same.refl _⟩
  have O2 : ∀ {a : Addr} {oo : OO}, del (updO O q (.grid (rows.set i cells))) r a = some oo → a ≠ r ∧ ((a = q ∧ oo = .grid (rows.set i cells)) ∨ (a ≠ q ∧ O a = some oo)) := fun {a oo} e => by
    by_cases h1 : a = r
    · rw [h1, xv] at e; cases e
    · rw [xI h1] at e
      by_cases h2 : a = q
      · rw [h2, zl] at e
        cases e
        exact ⟨h1, .inl ⟨h2, rfl⟩⟩
      · rw [zg h2] at e
        exact ⟨h1, .inr ⟨h2, e⟩⟩
  have O2n : ∀ {a : Addr}, O a = none → del (updO O q (.grid (rows.set i cells))) r a = none := fun {a} e => by
    have h2 : a ≠ q := Ne.symm (neO hq e)
    by_cases h1 : a = r
    · rw [h1, xv]
    · rw [xI h1, zg h2]; exact e
  have up : ∀ {a : Addr} {o : HO}, a ≠ q → H a = some o → upd H q (.lst ((rs.map V.ref).set i (.ref r))) a = some o := fun h e => by rw [zj h]; exact e
  have il : i < rs.length := by omega
  have Gm : ∀ {b : Addr} {ss : List Addr} {a : Addr} {rb : List (List PyData)}, del (updO O q (.grid (rows.set i cells))) r b = some (.grid rb) → (if b = q then some (rs.set i r) else Γ.G b) = some ss → a ∈ ss → (b = q ∧ a = r) ∨ (∃ rc tt, O b = some (.grid rc) ∧ Γ.G b = some tt ∧ a ∈ tt) := fun {b ss a rb} h1 h2 h3 => by
    by_cases e : b = q
    · subst e
      rw [if_pos rfl] at h2
      cases h2
      rcases List.mem_or_eq_of_mem_set h3 with m | m
      · exact .inr ⟨_, _, hq, hg, m⟩
      · exact .inl ⟨rfl, m⟩
    · rw [if_neg e] at h2
      rcases (O2 h1).2 with ⟨e1, _⟩ | ⟨_, e2⟩
      · exact absurd e1 e
      · exact .inr ⟨_, _, e2, h2, h3⟩
  refine ⟨?_, ?_, ?_, ?_, ?_, ?_, ?_, ?_⟩
  · intro b u e
    rw [zj (fun h => by rw [h, zq] at e; cases e)]
    exact S.z b u e
  · intro a oo e
    obtain ⟨nr, h⟩ := O2 e
    rcases h with ⟨rfl, rfl⟩ | ⟨nq, h⟩
    · refine ⟨zq, rs.set i r, if_pos rfl, ?_, ?_, ?_, ?_⟩
      · rw [zx, List.map_set]
      · rw [List.length_set, List.length_set]; exact hl
      · exact Yy hnd rno
      · intro j b ds hj hd
        by_cases e : j = i
        · subst e
          rw [List.getElem?_set_self il] at hj
          rw [List.getElem?_set_self hi] at hd
          cases hj
          cases hd
          refine ⟨zr, xv, vs, up (Ne.symm nqr) hHr, ?_⟩
          exact yy (Γ := Γ) hvs
        · rw [List.getElem?_set_ne (Ne.symm e)] at hj hd
          obtain ⟨a1, a2, us, a3, a4⟩ := hrow j b ds hj hd
          exact ⟨a1, O2n a2, us, up (Ne.symm (neO hq a2)) a3, a4⟩
    · obtain ⟨za, ob⟩ := S.o _ _ h
      refine ⟨za, ?_⟩
      have nr0 := hO _ _ h
      cases oo with
      | lst ws =>
        obtain ⟨us, a1, a2⟩ := ob
        exact ⟨us, up nq a1, a2.weak lw nr0⟩
      | dK kvs =>
        obtain ⟨us, a1, a2⟩ := ob
        exact ⟨us, up nq a1, yP.weak lw a2 nr0⟩
      | ins C dx fs =>
        obtain ⟨us, a1, a2⟩ := ob
        exact ⟨us, up nq a1, yP.weak lw a2 nr0⟩
      | grid rb =>
        obtain ⟨ss, g1, g2, g3, g4, g5⟩ := ob
        refine ⟨ss, by show (if a = q then _ else _) = _; rw [if_neg nq]; exact g1, up nq g2, g3, g4, fun j b ds hj hd => ?_⟩
        obtain ⟨a1, a2, us, a3, a4⟩ := g5 j b ds hj hd
        exact ⟨a1, O2n a2, us, up (Ne.symm (neO hq a2)) a3, a4⟩
  · intro a ss e
    by_cases h : a = q
    · rw [h]; exact ⟨_, zx⟩
    · have e : (if a = q then _ else _) = _ := e
      rw [if_neg h] at e
      obtain ⟨o, ho⟩ := S.gd _ _ e
      exact ⟨o, up h ho⟩
  · intro b u e
    rw [zj (fun h => by have := (S.fd _ _ e).2.1; rw [h, hq] at this; cases this)]
    exact S.f b u e
  · intro a oo e hn
    rcases (O2 e).2 with ⟨_, rfl⟩ | ⟨nq, h⟩
    · exact absurd rfl (hn _)
    · show (if a = q then _ else _) = _
      rw [if_neg nq]
      exact S.gn _ _ h hn
  · intro a o e
    have nq : a ≠ q := fun h => by have := (S.fd _ _ e).2.1; rw [h, hq] at this; cases this
    show (if a = q then _ else _) = _
    rw [if_neg nq]
    exact S.fg _ _ e
  · intro a o e
    obtain ⟨f1, f2, f3⟩ := S.fd _ _ e
    refine ⟨f1, O2n f2, fun b rb ss h1 h2 m => ?_⟩
    rcases Gm h1 h2 m with ⟨_, rfl⟩ | ⟨rc, tt, h3, h4, h5⟩
    · rw [hr] at f2; cases f2
    · exact f3 b rc tt h3 h4 h5
  · intro a b ra rb ss tt x h1 h2 h3 h4 m1 m2
    rcases Gm h1 h3 m1 with ⟨e1, x1⟩ | ⟨rc, t1, h5, h6, h7⟩
    · rcases Gm h2 h4 m2 with ⟨e2, _⟩ | ⟨rc, t1, h5, h6, h7⟩
      · rw [e1, e2]
      · rw [x1] at h7
        have := (rmem h5 h6 h7).2.1
        rw [hr] at this
        cases this
    · rcases Gm h2 h4 m2 with ⟨_, x2⟩ | ⟨rd, t2, h8, h9, h10⟩
      · rw [x2] at h7
        have := (rmem h5 h6 h7).2.1
        rw [hr] at this
        cases this
      · exact S.u a b rc rd t1 t2 x h5 h8 h6 h9 h7 h10
noncomputable def xZ (K : PySem.W.Frag) (s : SpW) : Sp := fun vs H Q _ => ∃ Γ O ws R, Sim K Γ O H ∧ relWs K Γ ws vs ∧ s ws O R ∧ ∀ Γ' O' H' w v, LeW Γ Γ' → Sim K Γ' O' H' → relW K Γ' w v → R w O' → Q v H'
structure EndsQ (K : PySem.W.Frag) (Γ : Gh) (D : Ends) (DW : EndsW) : Prop where
  nx : ∀ Γ' O' H' ρ' σ', LeW Γ Γ' → Sim K Γ' O' H' → relR K Γ' ρ' σ' → DW.nx ρ' O' → D.nx σ' H'
  rt : ∀ Γ' O' H' w v, LeW Γ Γ' → Sim K Γ' O' H' → relW K Γ' w v → DW.rt w O' → D.rt v H'
  bk : ∀ Γ' O' H' ρ' σ', LeW Γ Γ' → Sim K Γ' O' H' → relR K Γ' ρ' σ' → DW.bk ρ' O' → D.bk σ' H'
  ct : ∀ Γ' O' H' ρ' σ', LeW Γ Γ' → Sim K Γ' O' H' → relR K Γ' ρ' σ' → DW.ct ρ' O' → D.ct σ' H'
theorem EndsQ.mono {Γ Γ' : Gh} {D : Ends} {DW : EndsW} (h : EndsQ K Γ D DW) (l : LeW Γ Γ') : EndsQ K Γ' D DW :=
  ⟨fun _ _ _ _ _ l2 => h.nx _ _ _ _ _ (l.trans l2), fun _ _ _ _ _ l2 => h.rt _ _ _ _ _ (l.trans l2), fun _ _ _ _ _ l2 => h.bk _ _ _ _ _ (l.trans l2), fun _ _ _ _ _ l2 => h.ct _ _ _ _ _ (l.trans l2)⟩
theorem EndsQ.r {Γ : Gh} {D : Ends} {DW : EndsW} (h : EndsQ K Γ D DW) : EndsR K Γ D DW :=
  ⟨fun _ _ _ _ _ l => h.nx _ _ _ _ _ l.w, fun _ _ _ _ _ l => h.rt _ _ _ _ _ l.w, fun _ _ _ _ _ l => h.bk _ _ _ _ _ l.w, fun _ _ _ _ _ l => h.ct _ _ _ _ _ l.w⟩
noncomputable def vA (K : PySem.W.Frag) (t : TS) (T : TSW) : Prop := ∀ Γ O H ρ σ D DW, Sim K Γ O H → relR K Γ ρ σ → T DW ρ O → EndsQ K Γ D DW → t D σ H
noncomputable def ut (K : PySem.W.Frag) (t : TT) (T : TTW) : Prop := ∀ Γ O H ρ σ, qP ρ → Sim K Γ O H → relR K Γ ρ σ → ∀ (Q : Bool → Hp → Prop) (R : Bool → OM → Prop), T ρ O R → (∀ Γ' O' H' b, LeW Γ Γ' → Sim K Γ' O' H' → R b O' → Q b H') → t σ H Q
noncomputable def Y2 (K : PySem.W.Frag) (t : TE) (T : TEW) : Prop := ∀ Γ O H ρ σ, Sim K Γ O H → relR K Γ ρ σ → ∀ (Q : VK) (R : WK), T ρ O R → (∀ Γ' O' H' w v, LeW Γ Γ' → Sim K Γ' O' H' → relW K Γ' w v → R w O' → Q v H') → t σ H Q
theorem Z9 {t : TS} {T : TSW} (h : RefS K t T) : vA K t T := fun Γ O H ρ σ D DW S r hT e => h Γ O H ρ σ D DW S r hT e.r
theorem kL {t u : TS} {T U : TSW} (h : vA K t T) (g : vA K u U) : vA K (JE t u) (vR T U) := fun Γ O H ρ σ D DW S r hT e =>
  h Γ O H ρ σ { D with nx := u D } { DW with nx := U DW } S r hT ⟨fun Γ' O' H' ρ' σ' l S' r' h' => g _ _ _ _ _ _ _ S' r' h' (e.mono l), e.rt, e.bk, e.ct⟩
theorem kM {c : TT} {C : TTW} {t u : TS} {T U : TSW} (hc : xP K c C) (h : vA K t T) (g : vA K u U) : vA K (Uf c t u) (UR C T U) := fun Γ O H ρ σ D DW S r hT e => by
  refine hc _ _ _ _ _ S r _ _ hT fun Γ1 O1 H1 b l S1 h1 => ?_
  cases b with
  | false => rw [if_neg (by decide)] at h1 ⊢; exact g _ _ _ _ _ _ _ S1 (r.mono l) h1 (e.mono l.w)
  | true => rw [if_pos rfl] at h1 ⊢; exact h _ _ _ _ _ _ _ S1 (r.mono l) h1 (e.mono l.w)
theorem vp {s : SpW} {t : TA} {T : TAW} (h : xF K t T) : Y2 K (j6 (xZ K s) [] E0 t) (j9 s [] T) := by
  intro Γ O H ρ σ S r0 Q R hT k
  refine h Γ O H ρ σ S r0 _ _ hT fun Γ1 O1 H1 ws vs l1 S1 rs h1 => ?_
  exact ⟨Γ1, O1, _, R, S1, Paired.appP rs .nil, h1, fun Γ2 O2 H2 w v l2 S2 r2 h2 => k _ _ _ _ _ (l1.w.trans l2) S2 r2 h2⟩
noncomputable def ZA (T : TEW) : TSW := fun D ρ O => qP ρ ∧ T ρ O fun _ O1 => D.nx ρ O1
theorem jF {t : TE} {T : TEW} (h : Y2 K t T) : vA K (Ue t) (ZA T) := fun Γ O H ρ σ D DW S r hT e =>
  h _ _ _ _ _ S r _ _ hT.2 fun Γ1 O1 H1 w v l S1 r1 h1 => e.nx _ _ _ _ _ l S1 (r.weak l hT.1) h1
theorem kN {t : TT} {T : TTW} (h : xP K t T) : ut K t T := fun Γ O H ρ σ _ S r Q R hT k => h _ _ _ _ _ S r _ _ hT fun Γ' O' H' b l => k _ _ _ _ l.w
theorem Qh {t : TE} {T : TEW} (h : Y2 K t T) : ut K (YN t) (ka T) := by
  intro Γ O H ρ σ _ S r0 Q R hT k
  refine h Γ O H ρ σ S r0 _ _ hT fun Γ1 O1 H1 x v l1 S1 rx h1 => ?_
  split at h1
  · exact ⟨_, rx, k _ _ _ _ l1 S1 h1⟩
  · exact h1.elim
theorem kO {t : TE} {T : TEW} (h : Y2 K t T) : ut K (tB t) (ka T) := Qh h
theorem jG {t : TT} {T : TTW} (h : ut K t T) : ut K (JD t) (UL T) := by
  intro Γ O H ρ σ n S r0 Q R hT k
  exact h Γ O H ρ σ n S r0 _ _ hT fun Γ1 O1 H1 b l1 S1 h1 => k _ _ _ _ l1 S1 h1
theorem kP {t u : TT} {T U : TTW} (h : ut K t T) (g : ut K u U) : ut K (tOr t u) (wOr T U) := by
  intro Γ O H ρ σ n S r0 Q R hT k
  refine h Γ O H ρ σ n S r0 _ _ hT fun Γ1 O1 H1 b l1 S1 h1 => ?_
  cases b with
  | false => rw [if_neg (by decide)] at h1 ⊢; exact g _ _ _ _ _ n S1 (r0.weak l1 n) _ _ h1 fun Γ2 O2 H2 c l2 S2 h2 => k _ _ _ _ (l1.trans l2) S2 h2
  | true => rw [if_pos rfl] at h1 ⊢; exact k _ _ _ _ l1 S1 h1
noncomputable def Qi (c : TTW) (T U : TSW) : TSW := fun D ρ O => qP ρ ∧ c ρ O fun b O1 => if b = true then T D ρ O1 else U D ρ O1
theorem kQ {c : TT} {C : TTW} {t u : TS} {T U : TSW} (hc : ut K c C) (h : vA K t T) (g : vA K u U) : vA K (Uf c t u) (Qi C T U) := fun Γ O H ρ σ D DW S r hT e => by
  refine hc _ _ _ _ _ hT.1 S r _ _ hT.2 fun Γ1 O1 H1 b l S1 h1 => ?_
  cases b with
  | false => rw [if_neg (by decide)] at h1 ⊢; exact g _ _ _ _ _ _ _ S1 (r.weak l hT.1) h1 (e.mono l)
  | true => rw [if_pos rfl] at h1 ⊢; exact h _ _ _ _ _ _ _ S1 (r.weak l hT.1) h1 (e.mono l)
noncomputable def zaO (K : PySem.W.Frag) (Γ : Gh) (J : It) (ws : List W) : Prop := ∀ i Γ' O' H', LeW Γ Γ' → Sim K Γ' O' H' →
  (∀ w, ws[i]? = some w → J.go i H' ∧ ∀ x H2, J.yld i H' x H2 → ∃ Γ2, Le Γ' Γ2 ∧ Sim K Γ2 O' H2 ∧ relW K Γ2 w x) ∧ (i = ws.length → J.stop i H')
theorem Jt {Γ : Gh} {n : Nat} {f : Nat → Int} {J : It} (hgo : ∀ i H, i < n → J.go i H) (hy : ∀ i H x H', J.yld i H x H' → H' = H ∧ x = .int (f i)) (hs : ∀ i H, n ≤ i → J.stop i H) : zaO K Γ J ((List.range n).map fun i => .d (.int (f i))) := by
  intro i Γ' O' H' l S'
  refine ⟨fun w hw => ?_, fun hi => hs i _ (by rw [hi]; simp)⟩
  rw [List.getElem?_map] at hw
  cases hr : (List.range n)[i]? with
  | none => rw [hr] at hw; cases hw
  | some j =>
    rw [hr] at hw
    cases hw
    obtain ⟨hi, hj⟩ := List.getElem?_eq_some_iff.mp hr
    simp at hi hj
    subst hj
    refine ⟨hgo i _ hi, fun x H2 y => ?_⟩
    obtain ⟨rfl, rfl⟩ := hy _ _ _ _ y
    exact ⟨Γ', Le.refl _, S', vQ⟩
noncomputable def Qj (K : PySem.W.Frag) (t : TI) (T : TIW) : Prop := ∀ Γ O H ρ σ, Sim K Γ O H → relR K Γ ρ σ → ∀ (Q : It → Hp → Prop) (R : List W → (OM → Prop) → OM → Prop), T ρ O R → (∀ Γ' O' H' J ws keep, Le Γ Γ' → Sim K Γ' O' H' → zaO K Γ' J ws → R ws keep O' → Q J H') → t σ H Q
theorem qQ {t : TA} {T : TAW} (h : xF K t T) : Qj K (Uj t) (UT T) := by
  intro Γ O H ρ σ S r Q R hT k
  refine h _ _ _ _ _ S r _ _ hT fun Γ1 O1 H1 ws vs l1 S1 r1 h1 => ?_
  obtain ⟨j, rfl, b1, b2, h1⟩ := h1
  cases r1 with
  | cons rx t =>
    cases t
    refine ⟨j, by rw [show _ = V.int j from rx], b1, b2, k _ _ _ _ _ _ l1 S1 (Jt (f := fun i => (i : Int)) (fun i H hi => hi) (fun i H x H' ⟨e1, e2⟩ => ⟨e1, by rw [e2, Int.zero_add]⟩) fun i H hi => hi) h1⟩
theorem qR {t : TA} {T : TAW} (h : xF K t T) : Qj K (Uk t) (UU T) := by
  intro Γ O H ρ σ S r Q R hT k
  refine h _ _ _ _ _ S r _ _ hT fun Γ1 O1 H1 ws vs l1 S1 r1 h1 => ?_
  obtain ⟨i, j, rfl, b, h1⟩ := h1
  cases r1 with
  | cons rx t =>
    cases t with
    | cons ry t =>
      cases t
      exact ⟨i, j, by rw [show _ = V.int i from rx, show _ = V.int j from ry], b, k _ _ _ _ _ _ l1 S1 (Jt (f := fun k => i + (k : Int)) (fun i H hi => hi) (fun i H x H' ⟨e1, e2⟩ => ⟨e1, e2⟩) fun i H hi => hi) h1⟩
noncomputable def Y3 (Wi : TIW) (G : TGW) (TB : TSW) : TSW := fun D ρ O => Wi ρ O fun ws keep O1 => xj ws keep G TB D ρ O1
theorem vX {wi : TI} {Wi : TIW} {g : TG} {G : TGW} {tb : TS} {TB : TSW} (hi : Qj K wi Wi) (hg : RefG K g G) (hb : vA K tb TB) : vA K (JK wi g tb) (Y3 Wi G TB) := by
  intro Γ O H ρ σ D DW S r hT e
  refine hi _ _ _ _ _ S r _ _ hT fun Γ1 O1 H1 J ws keep l1 S1 ok h1 => ?_
  obtain ⟨Pv, p0, pk, ps, pd⟩ := h1
  refine ⟨fun i m σ' H' => i ≤ ws.length ∧ m = ws.length - i ∧ ∃ Γ' O' ρ', LeW Γ1 Γ' ∧ Sim K Γ' O' H' ∧ relR K Γ' ρ' σ' ∧ Pv i ρ' O', ⟨_, Nat.zero_le _, rfl, Γ1, O1, ρ, (Le.refl _).w, S1, r.mono l1, p0⟩, ?_⟩
  rintro i m σ' H' ⟨hi, rfl, Γ', O', ρ', l', S', r', p'⟩
  obtain ⟨ok1, ok2⟩ := ok i Γ' O' H' l' S'
  by_cases hlt : i < ws.length
  · obtain ⟨go, y⟩ := ok1 _ (List.getElem?_eq_getElem hlt)
    refine .inr ⟨go, fun σ2 H2 => ∃ Γ2 O2 ρ2, LeW Γ1 Γ2 ∧ Sim K Γ2 O2 H2 ∧ relR K Γ2 ρ2 σ2 ∧ Pv (i + 1) ρ2 O2, fun σ2 H2 ⟨Γ2, O2, ρ2, l2, S2, r2, p2⟩ => ⟨ws.length - (i + 1), by omega, hlt, rfl, Γ2, O2, ρ2, l2, S2, r2, p2⟩, fun x H2 hy => ?_⟩
    obtain ⟨Γ2, l2, S2, rx⟩ := y x H2 hy
    refine hg _ _ _ _ _ _ _ S2 (r'.mono l2) rx _ _ (ps i _ ρ' O' (List.getElem?_eq_getElem hlt) p') fun Γ3 O3 H3 ρ3 σ3 l3 S3 r3 h3 => ?_
    have l13 := (l'.trans l2.w).trans l3.w
    refine hb _ _ _ _ _ _ _ S3 r3 h3 ⟨fun Γ4 O4 H4 ρ4 σ4 l4 S4 r4 h4 => ⟨Γ4, O4, ρ4, l13.trans l4, S4, r4, h4⟩, fun Γ4 O4 H4 w v l4 => e.rt _ _ _ _ _ ((l1.w.trans l13).trans l4), fun Γ4 O4 H4 ρ4 σ4 l4 => e.nx _ _ _ _ _ ((l1.w.trans l13).trans l4), fun Γ4 O4 H4 ρ4 σ4 l4 S4 r4 h4 => ⟨Γ4, O4, ρ4, l13.trans l4, S4, r4, h4⟩⟩
  · have hi2 : i = ws.length := by omega
    refine .inl ⟨ok2 hi2, e.nx _ _ _ _ _ (l1.w.trans l') S' r' (pd _ _ ?_)⟩
    rw [← hi2]; exact p'
noncomputable def zaP (K : PySem.W.Frag) : R2 := J3 K
theorem zbU {X : Cx} (hK : X.K = K) : OpR X (binaryOp .Add) (zaP K) := Zd hK
noncomputable def Y4 : R2W := fun x y O R => ∃ ws us, yR O x = some ws ∧ yR O y = some us ∧ ws.length + us.length ≤ 1000000 ∧ ∀ p, O p = none → R (.own p) (updO O p (.lst (ws ++ us)))
theorem XQ : RefR K (zaP K) Y4 := by
  rintro Γ O H x y v u S rx ry Q R ⟨ws, us, e1, e2, hl, h⟩ k
  obtain ⟨a, vs, rfl, q1, q2⟩ := xy S rx e1
  obtain ⟨b, zs, rfl, p1, p2⟩ := xy S ry e2
  refine ⟨a, b, vs, zs, rfl, rfl, q1, p1, by rw [← Paired.length q2, ← Paired.length p2, sizeLine_eq]; omega, fun p hp => ?_⟩
  obtain ⟨hO, S'⟩ := Z1 S (Paired.appP q2 p2) hp
  exact k _ _ _ _ _ (Le.refl _) S' xG (h p hO)
noncomputable def Y5 (Te To Ti : TEW) : TSW := fun D ρ O => Te ρ O fun w O1 => To ρ O1 fun o O2 => Ti ρ O2 fun i O3 => ∃ r q n j rows cells Oi, w = .own r ∧ o = .own q ∧ i = .d (.int n) ∧ Old Oi O3 ∧ (∀ a oo, Oi a = some oo → u4 oo) ∧ Oi q = some (.grid rows) ∧ Oi r = some (.lst (cells.map W.d)) ∧
  ixN rows.length n = some j ∧ j < rows.length ∧ D.nx (forR ρ) (del (updO Oi q (.grid (rows.set j cells))) r)
theorem jH {te to ti : TE} {Te To Ti : TEW} (he : RefE K te Te) (ho : RefE K to To) (hi : RefE K ti Ti) : vA K (ZR te (JI to ti UD)) (Y5 Te To Ti) := by
  intro Γ O H ρ σ D DW S r hT e
  refine he _ _ _ _ _ S r _ _ hT fun Γ1 O1 H1 w v l1 S1 rw h1 => ?_
  refine ho _ _ _ _ _ S1 (r.mono l1) _ _ h1 fun Γ2 O2 H2 o vo l2 S2 ro h2 => ?_
  refine hi _ _ _ _ _ S2 ((r.mono l1).mono l2) _ _ h2 fun Γ3 O3 H3 i vi l3 S3 ri h3 => ?_
  obtain ⟨a, q, n, j, rows, cells, Oi, rfl, rfl, rfl, hold, hno, hq, ha, hj, jl, h3⟩ := h3
  cases (show vi = .int n from ri)
  cases (show v = .ref a from rw)
  cases (show vo = .ref q from ro)
  have S4 := S3.shrink hold
  obtain ⟨zq, rs, hg, hHq, hl, hnd, hrow⟩ := S4.o _ _ hq
  refine ⟨q, rs.map V.ref, n, j, rfl, rfl, hHq, by rw [List.length_map, hl]; exact hj, ?_⟩
  refine e.nx _ _ _ _ _ ?_ (S4.swap hno hq ha hg jl) ?_ h3
  · exact (((l1.trans l2).trans l3).w).trans ⟨rfl, Same.refl _⟩
  · have r4 := (((r.mono l1).mono l2).mono l3).forR
    refine relR.weak (Γ := Γ3) ?_ r4 (ug ρ)
    exact ⟨rfl, Same.refl Γ3.Z⟩
variable {P : Program} {w : World} {mg : Str → Option Value} {base : Heap}
theorem Fun.okQ {x qual : Str} {st : Stmt} {f : Addr} {fd : FuncData} {N ps : List Str} {k : Nat} {s : SpW} {t : TS} {T : TSW} (F : Fun K x qual st f fd) (S : FnScope N ps (defScope st)) (len : ∀ ws O R, s ws O R → ws.length = ps.length)
    (hP : ∀ (cdv : Value) (A : Around) (outer : List Env) (sh : Shared) (H : Hp) (E : XK), Room k (A.deeper (envOfC qual (defScope st) sh.heap.objs.size f cdv)) → PSs (uh CX0 P w K mg base N qual (defScope st) f cdv A outer sh H E).nox (defBody st) t)
    (hR : vA K t T) (hb : ∀ ws O R, s ws O R → T { nx := fun _ O' => Clo R (.d .none) O', rt := Clo R } (vD N ws) O) : FnOk P w K mg base CX0 (k + 1) f fd ps (xZ K s) := by
  refine F.ok S (fun vs H Q E h => ?_) (fun cdv A outer sh H vs Q E hr h => ?_)
  · obtain ⟨Γ, O, ws, R, S1, r, hs, _⟩ := h
    rw [← Paired.length r]
    exact len ws O R hs
  · obtain ⟨Γ, O, ws, R, S1, r, hs, kk⟩ := h
    refine ⟨t, hP cdv A outer sh H E hr, hR Γ O H _ _ _ _ S1 (qF r) (hb ws O R hs) ⟨fun Γ' O' H' ρ' σ' l S' r' h' => ?_, fun Γ' O' H' w v l S' r' h' => ?_, fun _ _ _ _ _ _ _ _ h => h.elim, fun _ _ _ _ _ _ _ _ h => h.elim⟩⟩
    · exact uw S' uu h' fun Γ2 O2 H2 w v l2 => kk _ _ _ _ _ (l.trans l2.w)
    · exact uw S' r' h' fun Γ2 O2 H2 w v l2 => kk _ _ _ _ _ (l.trans l2.w)
end
end L2
namespace L2
open PySem PySem.Spec PyProof.Rows
noncomputable def zds (S : ST) : Prop := S.last = .none ∨ ∃ c, S.last = .str c ∧ PyData.strOk c = true
noncomputable def x8 (S : ST) : Prop := PicOk S ∧ zds S
theorem x8.all {S : ST} (h : x8 S) : xC S := by
  refine ⟨h.1, ?_⟩
  rcases h.2 with e | ⟨c, e, hc⟩
  · rw [e]; exact ⟨rfl, rfl⟩
  · rw [e]; exact XL hc
theorem Drawn.all2 {S : ST} (h : Drawn S) : x8 S := by
  refine ⟨h.ok, ?_⟩
  rcases h.last with e | ⟨c, e, e2⟩
  · exact .inl e
  · have h0 := h.ok S.row.toNat S.col.toNat (by have := h.b.r0; have := h.b.r1; omega) (by have := h.b.c0; have := h.b.c1; omega)
    rw [e2] at h0
    exact .inr ⟨c, e, h0⟩
theorem zbV {S : ST} : (pF S).last = S.last := by
  unfold pF
  split <;> rfl
theorem XR {c : Str} {S : ST} : (vE c S).last = .str c := by
  rw [vz, zbV]
  rfl
theorem x8.put {c : Str} {S : ST} (h : x8 S) (hB : Bds S) (hc : PyData.strOk c = true) : x8 (vE c S) := ⟨(h.all.put hB hc).1, .inr ⟨c, XR, hc⟩⟩
noncomputable def itS (c : Str) : Nat → ST → ST
  | 0, S => S
  | n + 1, S => vE c (itS c n S)
theorem kR {c : Str} {S : ST} (h : S.last = .str c) : ∀ n, (itS c n S).last = .str c
  | 0 => h
  | _ + 1 => XR
theorem Bds.it {c : Str} {S : ST} (h : Bds S) : ∀ n, Bds (itS c n S)
  | 0 => h
  | n + 1 => (Bds.it h n).put
theorem x8.it {c : Str} {S : ST} (h : x8 S) (hB : Bds S) (hc : PyData.strOk c = true) : ∀ n, x8 (itS c n S)
  | 0 => h
  | n + 1 => (x8.it h hB hc n).put (hB.it n) hc
noncomputable def ZB (C : Addr) : SpW := fun ws O R => ∃ m x dx p st kp S, ws = [.own x, .d m] ∧ xM m ∧ StAt O C x dx p st kp S ∧ Bds S ∧ zds S ∧ ∀ S' O', (S.last = .none → S' = S) → (∀ c, S.last = .str c → S' = itS c (xn m).toNat S) → StAt O' C x dx p st kp S' → But O O' x p → R (.d .none) O'
noncomputable def jI (C : Addr) : SpW := fun ws O R => ∃ x dx p st kp d q S n, ws = [.own x, .own d, .d (.int n)] ∧ 0 ≤ n ∧ Both O C x dx p st kp d q S S ∧ Bds S ∧ x8 S ∧ ∀ S' O', Both O' C x dx p st kp d q S' S' → Bds S' → x8 S' → R (.d .none) O'
noncomputable def XS (C : Addr) : SpW := fun ws O R => ∃ x dx p st kp d q S n, ws = [.own x, .own d, .d (.int n)] ∧ 0 ≤ n ∧ Both O C x dx p st kp d q S S ∧ Bds S ∧ x8 S ∧ ∀ q' S' O', Both O' C x dx p st kp d q' S' S' → Bds S' → x8 S' → R (.d (.bool true)) O'
theorem zd9 {ds : List PyData} {n : Nat} : qH ds none (some (n : Int)) = ds.take n := by
  unfold qH
  rw [HT.sIx_none, HT.sIx_nat, List.drop_zero, Nat.sub_zero]
  rcases Nat.le_total n ds.length with h | h
  · rw [Nat.min_eq_left h]
  · rw [Nat.min_eq_right h, List.take_length, List.take_of_length_le h]
theorem zbW {ds : List PyData} {n : Nat} : qH ds (some (n : Int)) none = ds.drop n := by
  unfold qH
  rw [HT.sIx_none, HT.sIx_nat]
  rcases Nat.le_total n ds.length with h | h
  · rw [Nat.min_eq_left h, List.take_of_length_le (by rw [List.length_drop]; omega)]
  · rw [Nat.min_eq_right h, List.drop_length, List.drop_eq_nil_of_le h]
    simp
theorem XT {α : Type} {x : α} : ∀ {l : List α} {n : Nat}, n < l.length → l.take n ++ [x] ++ l.drop (n + 1) = l.set n x
  | a :: l, 0, _ => by simp
  | a :: l, n + 1, h => by
    have := XT (x := x) (l := l) (n := n) (by simpa using h)
    simp only [List.take_succ_cons, List.cons_append, List.drop_succ_cons, List.set_cons_succ]
    rw [← this]
noncomputable def u5 (O : OM) (x p st kp d q r : Addr) : OM := fun a => if a = x ∨ a = p ∨ a = st ∨ a = kp ∨ a = d ∨ a = q ∨ a = r then O a else none
theorem Ju {O : OM} {x p st kp d q r : Addr} : Old (u5 O x p st kp d q r) O := fun b hb => by
  unfold u5 at hb ⊢
  split
  · rfl
  · rename_i h
    rw [if_neg h] at hb
    exact absurd rfl hb
theorem qS {O : OM} {x p st kp d q r a : Addr} (h : a = x ∨ a = p ∨ a = st ∨ a = kp ∨ a = d ∨ a = q ∨ a = r) : u5 O x p st kp d q r a = O a := if_pos h
theorem Both.swap {O : OM} {C x dx p st kp d q r : Addr} {S S' : ST} {rw : List (List PyData)} {f : PF} (b : Both O C x dx p st kp d q S S') (hr : O r = none) {o : OO} (e : rw = genG S'.h S'.w f) :
    Both (del (updO (u5 (updO O r o) x p st kp d q r) q (.grid rw)) r) C x dx p st kp d q S { S' with pic := f } := by
  subst e
  have k : ∀ {a : Addr} {u : OO}, O a = some u → (a = x ∨ a = p ∨ a = st ∨ a = kp ∨ a = d ∨ a = q ∨ a = r) → a ≠ q → del (updO (u5 (updO O r o) x p st kp d q r) q (.grid (genG S'.h S'.w f))) r a = some u := fun {a u} h1 h2 h3 => by
    have h4 : a ≠ r := neO h1 hr
    rw [xI h4, zg h3, qS h2, zg h4]
    exact h1
  have hqr : q ≠ r := neO b.o.q hr
  refine ⟨⟨k b.s.x (by simp) (Ne.symm b.qx), k b.s.p (by simp) b.pq, k b.s.st (by simp) (Ne.symm b.qs), k b.s.kp (by simp) (Ne.symm b.qk)⟩, ⟨k b.o.d (by simp) b.o.dq, ?_⟩, b.ds, b.pq⟩
  rw [xI hqr, zl]
theorem Both.noR {O : OM} {C x dx p st kp d q r : Addr} {S S' : ST} (b : Both O C x dx p st kp d q S S') (hr : O r = none) {ds : List PyData} : ∀ a oo, u5 (updO O r (.lst (ds.map W.d))) x p st kp d q r a = some oo → u4 oo := by
  intro a oo e
  have hrq : ∀ {y : Addr} {u : OO}, O y = some u → updO O r (.lst (ds.map W.d)) y = some u := fun {y u} h => by rw [zg (neO h hr)]; exact h
  by_cases h : a = x ∨ a = p ∨ a = st ∨ a = kp ∨ a = d ∨ a = q ∨ a = r
  · rw [qS h] at e
    rcases h with rfl | rfl | rfl | rfl | rfl | rfl | rfl
    · rw [hrq b.s.x] at e
      cases e
      simp [u4, fldW, va]
    · rw [hrq b.s.p] at e
      cases e
      exact trivial
    · rw [hrq b.s.st] at e
      cases e
      simp [u4, uH, va]
    · rw [hrq b.s.kp] at e
      cases e
      simp [u4]
    · rw [hrq b.o.d] at e
      cases e
      simp [u4, ownW, va]
    · rw [hrq b.o.q] at e
      cases e
      exact trivial
    · rw [zl] at e
      cases e
      simp [u4, va]
  · unfold u5 at e
    rw [if_neg h] at e
    cases e
noncomputable def zsK : Str := Str.ofString " !\"#$&'()*+,-./0123456789:;<=>?@ABCXYZ[\\]^_`abcxyz{|}~"
theorem Ub : zsK.length = 54 := by decide +kernel
theorem XU : zsK.length ≤ sizeLine := by rw [sizeLine_eq]; decide +kernel
theorem zdt : ∀ k : _root_.Fin 54, PyData.strOk ⟨#[zsK.cps.toList.getD k.val 0]⟩ = true := by decide +kernel
theorem zdu {k : Int} (h0 : 0 ≤ k) (h1 : k < 54) : ∃ c, atI zsK.cps.toList k = some c ∧ PyData.strOk ⟨#[c]⟩ = true := by
  obtain ⟨n, rfl⟩ := Int.eq_ofNat_of_zero_le h0
  have hl : zsK.cps.toList.length = 54 := by decide +kernel
  refine ⟨zsK.cps.toList.getD n 0, vN ?_, zdt ⟨n, by omega⟩⟩
  rw [List.getD_eq_getElem?_getD]
  have : n < zsK.cps.toList.length := by rw [hl]; omega
  simp [List.getElem?_eq_getElem this]
end L2
namespace L2
open PySem PySem.Spec PyProof.Rows
theorem XV : ∀ l : List Int, PyData.canLayAll0 (l.map PyData.int) = true ∧ PyData.depthAll (l.map PyData.int) = 0
  | [] => ⟨rfl, rfl⟩
  | n :: l => by
    obtain ⟨h1, h2⟩ := XV l
    exact ⟨by simp [PyData.canLayAll0, PyData.canLay0, h1], by simp [PyData.depthAll, PyData.depth, h2]⟩
theorem qd (l : List Int) : SeqAt.shaped (.list (l.map PyData.int)) = true := by
  obtain ⟨h1, h2⟩ := XV l
  simp [SeqAt.shaped, PyData.canLay0, PyData.depth, h1, h2]
theorem kq : ∀ l : List Int, PyData.eqvAll (l.map PyData.int) (l.map PyData.int) = true
  | [] => rfl
  | n :: l => by simp [PyData.eqvAll, PyData.eqv, kq l]
theorem XW (l : List Int) : PyData.eqv (.list (l.map PyData.int)) (.list (l.map PyData.int)) = true := by simp only [PyData.eqv]; exact kq l
theorem Yz {w : Nat} {g : Nat → Cel} : ∀ {l : List Nat}, (∀ j ∈ l, okC (g j)) → PyData.canLayAll0 (l.map fun j => yo (g j)) = true ∧ PyData.depthAll (l.map fun j => yo (g j)) ≤ 1
  | [], _ => ⟨rfl, Nat.zero_le _⟩
  | j :: l, h => by
    obtain ⟨h1, h2⟩ := Yz (w := w) (l := l) fun k hk => h k (List.mem_cons_of_mem _ hk)
    have h0 : PyData.strOk (g j).1 = true := h j List.mem_cons_self
    refine ⟨?_, ?_⟩
    · simp [PyData.canLayAll0, yo, PyData.canLay0, h0] ; exact h1
    · simp only [List.map_cons, PyData.depthAll, yo, PyData.depth]
      simp only [yo] at h2
      omega
theorem XX {w : Nat} {f : PF} : ∀ {l : List Nat}, (∀ i ∈ l, ∀ j, j < w → okC (f i j)) → PyData.canLayAll0 ((l.map fun i => (List.range w).map fun j => yo (f i j)).map PyData.list) = true ∧ PyData.depthAll ((l.map fun i => (List.range w).map fun j => yo (f i j)).map PyData.list) ≤ 2
  | [], _ => ⟨rfl, Nat.zero_le _⟩
  | i :: l, h => by
    obtain ⟨h1, h2⟩ := XX (l := l) fun k hk => h k (List.mem_cons_of_mem _ hk)
    obtain ⟨g1, g2⟩ := Yz (w := w) (g := f i) (l := List.range w) fun j hj => h i List.mem_cons_self j (by simpa using hj)
    refine ⟨?_, ?_⟩
    · simp only [List.map_cons, PyData.canLayAll0, PyData.canLay0, g1, h1, Bool.and_self]
    · simp only [List.map_cons, PyData.depthAll, PyData.depth]
      omega
theorem Vt {h w : Nat} {f : PF} (hf : ∀ i j, i < h → j < w → okC (f i j)) : SeqAt.shaped (.list ((genG h w f).map PyData.list)) = true := by
  obtain ⟨h1, h2⟩ := XX (w := w) (f := f) (l := List.range h) fun i hi j hj => hf i j (by simpa using hi) hj
  unfold genG
  have h3 : PyData.depth (.list (((List.range h).map fun i => (List.range w).map fun j => yo (f i j)).map PyData.list)) ≤ 64 := by
    simp only [PyData.depth]
    omega
  have h4 : PyData.canLay0 (.list (((List.range h).map fun i => (List.range w).map fun j => yo (f i j)).map PyData.list)) = true := by
    simp only [PyData.canLay0]
    exact h1
  unfold SeqAt.shaped
  rw [h4, decide_eq_true h3]
  rfl
theorem jJ {g : Nat → Cel} : ∀ l : List Nat, PyData.eqvAll (l.map fun j => yo (g j)) (l.map fun j => yo (g j)) = true
  | [] => rfl
  | j :: l => by simp only [List.map_cons, PyData.eqvAll, zba, decide_true, Bool.true_and]; exact jJ l
theorem K3 {h w : Nat} {f : PF} : PyData.eqv (.list ((genG h w f).map PyData.list)) (.list ((genG h w f).map PyData.list)) = true := by
  unfold genG
  simp only [PyData.eqv]
  generalize List.range h = l
  induction l with
  | nil => rfl
  | cons i l ih => simp only [List.map_cons, PyData.eqvAll, PyData.eqv, jJ, Bool.true_and]; exact ih
theorem Jv {w : Nat} : srt ((List.range ((w - 1) / 4)).map fun (i : Nat) => (4 + (i : Int) * 4)) = (List.range ((w - 1) / 4)).map fun (i : Nat) => (4 + (i : Int) * 4) := by
  refine (QZ (List.Perm.refl _) ?_).symm
  rw [List.pairwise_map]
  exact List.Pairwise.imp (fun {a b} h => by omega) List.pairwise_lt_range
noncomputable def Qk (q : Addr) (S : ST) : W → Option PyData
  | .d (.str s) => match xl (ownW q S) (Sum.inr s) with
    | some (.d x) => some x
    | _ => none
  | _ => none
end L2
namespace Att
open PySem PySem.W PySem.Calls PyProof.Rows
theorem K4 {i : Int} (x : (WData.int i).layable = true) : L2.Bt 1048576 i := by
  have h := (layableW_iff.mp x).2.2
  simp only [WData.weight] at h
  unfold L2.Bt
  by_cases hi : i = 0
  · subst hi
    exact Nat.two_pow_pos _
  · have hn : i.natAbs ≠ 0 := by omega
    simp only [beq_iff_eq, hi, if_false] at h
    exact (Nat.log2_lt hn).mp (by
      have e : (2 : Nat) ^ 20 = 1048576 := by decide
      omega)
theorem attB {l : OpenLaw} {n : Nat} {q : Program} {loose : List Str} {XP : (Str → Option Value) → Heap → Prop} {YP : World → Heap → Prop} {d : DefRec}
    (hn : l.most = some n) (hdf : d.params.defaults = [])
    (call : ∀ (w : World) (s₀ s₁ : Shared) (mg mb : Str → Option Value) (fa a : Addr) (vs : List Value) (ns : List Int), Ground q loose [] XP w s₀ mg mb s₁.heap → YP w s₁.heap → mg d.name = some (.ref fa) →
      s₁.heap.get? a = some { cls := .type "list", data := .seq vs.toArray } → IntsAre vs ns → ns.length ≤ n → (∀ i ∈ ns, L2.Bt 1048576 i) → s₁.gens = #[] →
      codeAny (model l.prog w) callerA (.call (.ref fa) ⟨[.ref a], []⟩) (fun r s' => r = .ok (.ret (.bool true)) ∧ OldK s₁.heap s'.heap ∧ s'.os = s₁.os ∧ AllBare s'.gens) s₁) :
    WalkO q loose XP YP l.row.toRowW d [] (fun f vs => PySem.call f vs) := by
  intro w s₀ s₁ mg mb G Y fa o pm cd doc dV kV ho hd hcd hD hm hg args vals as hp hy hr hw hl
  cases Dflts.none hD hdf
  cases Dflts.noKw hD
  obtain ⟨a, vs, ns, e1, e2, hb, hi, hk⟩ := QT hn hp hw
  subst e1
  subst e2
  have bits : ∀ i ∈ ns, L2.Bt 1048576 i := fun i h => K4 (layableW_item (layableW_arg hy _ List.mem_cons_self) _ (List.mem_map.2 ⟨i, h, rfl⟩))
  refine enter_call (codeAny_mono (call w s₀ s₁ mg mb fa a vs ns G Y hm hb hi hk bits hg) ?_)
  rintro r s' ⟨rfl, c2, c3, c4⟩
  refine ⟨.inl ⟨.bool true, .bool true, [], rfl, fun _ => rfl, .bool true, QU l _, fun _ => ⟨List.Pairwise.nil, fun _ z => ?_⟩⟩, c2, c3, c4⟩
  cases z
end Att
namespace L2
open PySem PySem.Spec PyProof.Rows
end L2
namespace L2
open PySem PySem.Spec PyProof.Rows
theorem walkQ {l : PySem.W.OpenLaw} {n k : Nat} {q : Program} {loose : List Str} {XP : (Str → Option Value) → Heap → Prop} {YP : World → Heap → Prop} {d : DefRec} {K : Params → PySem.W.Frag} {x : Str} {s : SpW} (hn : l.most = some n) (hn2 : n ≤ 1000) (hdf : d.params.defaults = []) (hr : Room k callerA)
    (hY : ∀ (w : World) (h : Heap), YP w h → (K w.params).In h)
    (F : ∀ (w : World) (mg : Str → Option Value) (fa : Addr) (h : Heap), (K w.params).In h → h.Ns mainGlobals mg → mg d.name = some (.ref fa) →
      ∃ fd : FuncData, (∀ (s : Shared) (u : Value), BindsTo s fd ⟨[u], []⟩ [(x, u)]) ∧ ∀ base : Heap, (K w.params).In base → base.Ns mainGlobals mg → FnOk l.prog w (K w.params) mg base CX0 k fa fd [x] (xZ (K w.params) s))
    (hs : ∀ (ns : List Int) (O : OM) (R : WK), ns.length ≤ n → (∀ i ∈ ns, Bt 1048576 i) → (∀ O', R (.d (.bool true)) O') → s [.d (.list (ns.map .int))] O R) :
    PySem.W.WalkO q loose XP YP l.row.toRowW d [] (fun f vs => PySem.call f vs) := by
  refine Att.attB hn hdf fun w s₀ s₁ mg mb fa a vs ns G Y hm hb hi hk bits hg => ?_
  obtain ⟨fd, e1, e2⟩ := F w mg fa _ (hY w _ Y) G.T.g hm
  refine JX (hY w _ Y) G.T.g G.T.b G.T.builtins G.T.nolimit hg hb hi (Nat.le_trans hk (Nat.le_trans hn2 (by decide))) hr e2 e1 (fun H hO hS => ?_) fun _ _ _ z => z
  refine ⟨⟨H, fun _ => none, fun _ => none⟩, fun _ => none, [.d (.list (ns.map .int))], fun w _ => w = .d (.bool true), ?_, .cons ⟨a, _, rfl, hS, Yr ns⟩ .nil, hs ns _ _ hk bits fun _ => rfl, ?_⟩
  · exact ⟨Same.refl _, fun _ _ e => (by cases e), fun _ _ e => (by cases e), fun _ _ e => (by cases e), fun _ _ e => (by cases e), fun _ _ e => (by cases e), fun _ _ e => (by cases e), fun _ _ _ _ _ _ _ e => (by cases e)⟩
  · rintro Γ' O' H' w v _ _ r rfl
    exact r
end L2
namespace K11
open PySem L2
local macro_rules | `(tactic| walk_at "ref") => `(tactic| repeat' (first
  | with_reducible exact zdh
  | with_reducible exact zbl
  | with_reducible exact zbm
  | with_reducible exact zcx
  | with_reducible exact zbn
  | with_reducible apply zcy
  | with_reducible exact zdW
  | with_reducible exact zdH
  | with_reducible exact zdI
  | with_reducible exact zdi
  | with_reducible exact zbL
  | with_reducible exact zdL
  | with_reducible exact zcE
  | with_reducible exact zdj
  | with_reducible exact zdN
  | with_reducible exact zdO
  | with_reducible exact zdT
  | with_reducible exact zem
  | with_reducible exact zc5
  | with_reducible exact zdf
  | with_reducible apply zcz
  | exact zeo (fun _ => rfl)
  | exact zdV (fun _ _ => rfl)
  | exact zen (fun _ _ => rfl)
  | with_reducible apply KG
  | with_reducible apply Ka
  | with_reducible apply Kb
  | with_reducible apply zcI
  | with_reducible apply V9
  | with_reducible apply zdX
  | with_reducible apply zbo
  | with_reducible apply zcH
  | with_reducible apply zbp
  | with_reducible apply KB
  | with_reducible exact zbJ
  | with_reducible exact zbr
  | with_reducible apply zbF
  | with_reducible apply Kf
  | with_reducible exact zc0 rfl
  | with_reducible exact zdg
  | with_reducible apply zbs
  | with_reducible apply zbt
  | with_reducible apply Kv
  | with_reducible exact Kw
  | with_reducible apply Jh
  | with_reducible apply Ji
  | with_reducible apply Kh
  | with_reducible apply Kg
  | with_reducible apply Yv
  | with_reducible apply zcL
  | with_reducible exact zdb
  | with_reducible exact zcM
  | with_reducible exact zel
  | with_reducible exact zdS
  | with_reducible exact zdd
  | with_reducible exact zdY
  | with_reducible exact zcN
  | with_reducible apply Yv
  | with_reducible exact zd5
  | with_reducible exact zd6
  | with_reducible exact zbP
  | with_reducible apply zbG
  | with_reducible exact UX
  | with_reducible apply Ky
  | with_reducible apply zcV
  | with_reducible apply zbH
  | with_reducible apply zbI
  | with_reducible apply zdk
  | with_reducible apply KI
  | with_reducible apply Ks
  | with_reducible exact RefPs.nil
  | with_reducible apply RefPs.cons
  | with_reducible apply zcW
  | with_reducible exact Kt
  | with_reducible exact Ku
  | with_reducible apply KC
  | with_reducible apply zbx
  | with_reducible exact Kk
  | with_reducible exact Q4
  | with_reducible apply Kl
  | with_reducible apply zby
  | with_reducible apply zbz
  | with_reducible apply zbA
  | with_reducible exact Kn
  | with_reducible apply Kp
  | with_reducible exact Ko
  | with_reducible apply Q5
  | with_reducible apply Kq
  | with_reducible apply zbD
  | with_reducible apply zbM
  | with_reducible apply KJ
  | with_reducible apply zbB
  | with_reducible apply Q6
  | with_reducible apply Kr
  | with_reducible apply Q7
  | with_reducible apply Q8
  | with_reducible apply Q9))
local macro_rules | `(tactic| walk_at "wd") => `(tactic| ((try dsimp only [UZ, List.getElem?_cons_zero, List.getElem?_cons_succ, wC, wOp, vI0, vI, wUn, vU, vEq, vNe, U0, YS, ka, XA, J9, wOr, UL, wIf, Ke, UN, wCs, j9, wCB, vI2, KH, U1, XB, XC, vR, UP, UQ, Kj, zdQ, UR, Km, US, ofV, kJ, List.set, List.map, vD, List.append, List.nil_append, List.cons_append]); try simp [UZ, wC, wOp, vI0, vI, wUn, vU, vEq, vNe, zcA, zcB, U0, YS, zcD, zan, KF, zcF, zcG, zc3, wIn, zaD, zaH, XA, zao, zap, wIf, ka, J9, wOr, UL, Kd, Ke, UN, wCs, zcJ, zcK, zaz, zaB, j9, zar, zaq, Jm, Jn, zdq, zaN, wCB, Ki, zas, Xt, Xu, Xv, vI2, zat, zc2, V4, zaC, KH, XB, zax, Zn, wBM, V1, V2, vR, UP, UQ, Kj, UR, Km, US, zcQ, zcP, zau, zcR, zcZ, U1, XC, zcU, zav, zcT, UT, UU, zaw, wLc, zc9, zda, Kx, zaI, YQ, xx, vD, ofV, vOf, scD, Y9, x9, Xq, xA, kJ, UM, Xr, tyD, isI, yM, and_assoc, wCR, Kx, kK, sI1, sI2, sI3, qI, qt, uG, Zq, Zr, Zs, qu, YU, zk, zl, xR, yQ, xm]))
noncomputable def top (i : Nat) : Stmt := PySem.Challenge.pw_signscreen_k11_signs_written.main.body.getD i (.Pass ⟨0, 0, 0, 0⟩)
local macro_rules | `(tactic| walk_at "sc") => `(tactic| exact ⟨rfl, rfl, rfl, by decide +kernel, rfl, by decide +kernel, by decide +kernel⟩)
noncomputable abbrev qT : Stmt := top 6
theorem Vu : FnScope ["thing", "least", "most"] ["thing", "least", "most"] (defScope qT) := by walk_at "sc"
noncomputable abbrev jK : Stmt := top 7
theorem Ql : FnScope ["ink"] ["ink"] (defScope jK) := by walk_at "sc"
noncomputable abbrev jL : Stmt := top 8
theorem Qm : FnScope ["ink"] ["ink"] (defScope jL) := by walk_at "sc"
noncomputable abbrev qU : Stmt := top 9
theorem Vv : FnScope ["ink"] ["ink"] (defScope qU) := by walk_at "sc"
noncomputable abbrev uJ : Stmt := top 10
theorem Jw : FnScope ["fore", "back", "marks"] ["fore", "back", "marks"] (defScope uJ) := by walk_at "sc"
noncomputable abbrev qe : Stmt := top 11
theorem XY : FnScope ["ink", "hue"] ["ink", "hue"] (defScope qe) := by walk_at "sc"
noncomputable abbrev qf : Stmt := top 12
theorem XZ : FnScope ["ink", "hue"] ["ink", "hue"] (defScope qf) := by walk_at "sc"
noncomputable abbrev qg : Stmt := top 13
theorem X0 : FnScope ["ink", "mark"] ["ink", "mark"] (defScope qg) := by walk_at "sc"
noncomputable abbrev vY : Stmt := top 14
theorem ZC : FnScope ["ink", "mark"] ["ink", "mark"] (defScope vY) := by walk_at "sc"
noncomputable abbrev vZ : Stmt := top 15
theorem ZD : FnScope ["ink"] ["ink"] (defScope vZ) := by walk_at "sc"
noncomputable abbrev jM : Stmt := top 19
theorem Qn : FnScope ["wide", "high"] ["wide", "high"] (defScope jM) := by walk_at "sc"
noncomputable abbrev vv : Stmt := top 20
theorem X1 : FnScope ["wide", "ink"] ["wide", "ink"] (defScope vv) := by walk_at "sc"
noncomputable abbrev xJ : Stmt := top 21
theorem kS : FnScope ["wide", "high", "ink"] ["wide", "high", "ink"] (defScope xJ) := by walk_at "sc"
noncomputable abbrev kT : Stmt := top 22
theorem Jx : FnScope ["picture"] ["picture"] (defScope kT) := by walk_at "sc"
noncomputable abbrev yY : Stmt := VT (top 25) 0
theorem ki : FnScope ["self", "wide", "high"] ["self", "wide", "high"] (defScope yY) := by walk_at "sc"
noncomputable abbrev xq : Stmt := VT (top 25) 1
theorem Ya : FnScope ["self"] ["self"] (defScope xq) := by walk_at "sc"
noncomputable abbrev uj : Stmt := top 26
theorem Yb : FnScope ["wide"] ["wide"] (defScope uj) := by walk_at "sc"
noncomputable abbrev Yc : Stmt := top 27
theorem X2 : FnScope ["state", "top", "bottom", "left", "right"] ["state"] (defScope Yc) := by walk_at "sc"
noncomputable abbrev v0 : Stmt := top 28
theorem ZE : FnScope ["many"] ["many"] (defScope v0) := by walk_at "sc"
noncomputable abbrev qV : Stmt := top 29
theorem Vw : FnScope ["state"] ["state"] (defScope qV) := by walk_at "sc"
noncomputable abbrev ua : Stmt := top 31
theorem ZF : FnScope ["state"] ["state"] (defScope ua) := by walk_at "sc"
noncomputable abbrev jN : Stmt := top 32
theorem Qo : FnScope ["number", "first", "last"] ["number", "first", "last"] (defScope jN) := by walk_at "sc"
noncomputable abbrev qW : Stmt := top 33
theorem Vx : FnScope ["state", "row", "column"] ["state", "row", "column"] (defScope qW) := by walk_at "sc"
noncomputable abbrev jO : Stmt := top 34
theorem Qp : FnScope ["state"] ["state"] (defScope jO) := by walk_at "sc"
noncomputable abbrev qh : Stmt := top 36
theorem jP : FnScope ["state", "first", "step", "old", "row", "source", "inside", "column"] ["state", "first", "step"] (defScope qh) := by walk_at "sc"
noncomputable abbrev jQ : Stmt := top 37
theorem Qq : FnScope ["state", "first", "times"] ["state", "first", "times"] (defScope jQ) := by walk_at "sc"
noncomputable abbrev uK : Stmt := top 39
theorem ja : FnScope ["state", "step", "right", "line", "old", "column", "source", "inside"] ["state", "step"] (defScope uK) := by walk_at "sc"
noncomputable abbrev qi : Stmt := top 40
theorem X3 : FnScope ["state", "many"] ["state", "many"] (defScope qi) := by walk_at "sc"
noncomputable abbrev qX : Stmt := top 42
theorem Vy : FnScope ["state"] ["state"] (defScope qX) := by walk_at "sc"
noncomputable abbrev qY : Stmt := top 43
theorem Vz : FnScope ["state", "sign"] ["state", "sign"] (defScope qY) := by walk_at "sc"
noncomputable abbrev Yd : Stmt := top 44
theorem X4 : FnScope ["state", "many", "turn"] ["state", "many"] (defScope Yd) := by walk_at "sc"
noncomputable abbrev X5 : Stmt := top 46
theorem Uc : FnScope ["first", "last", "size", "begin", "end"] ["first", "last", "size"] (defScope X5) := by walk_at "sc"
noncomputable abbrev qZ : Stmt := top 47
theorem ku : FnScope ["state", "first", "last", "rows"] ["state", "first", "last"] (defScope qZ) := by walk_at "sc"
noncomputable abbrev uk : Stmt := top 48
theorem qw : FnScope ["state", "first", "last", "columns"] ["state", "first", "last"] (defScope uk) := by walk_at "sc"
noncomputable abbrev X6 : Stmt := top 49
theorem zbX : FnScope ["ink", "number"] ["ink", "number"] (defScope X6) := by walk_at "sc"
noncomputable abbrev Qr : Stmt := top 50
theorem Jy : FnScope ["state", "numbers", "number"] ["state", "numbers"] (defScope Qr) := by walk_at "sc"
noncomputable abbrev uL : Stmt := top 51
theorem jb : FnScope ["state", "numbers", "on", "turned_on", "number"] ["state", "numbers", "on"] (defScope uL) := by walk_at "sc"
noncomputable abbrev ub : Stmt := top 53
theorem ZG : FnScope ["_law_script", "_law_k"] ["_law_script", "_law_k"] (defScope ub) := by walk_at "sc"
noncomputable abbrev uM : Stmt := top 54
theorem jc : FnScope ["_law_cell", "_law_k", "_law_number"] ["_law_cell", "_law_k"] (defScope uM) := by walk_at "sc"
noncomputable abbrev vj : Stmt := top 55
theorem vJ : FnScope ["_law_cell", "_law_wide", "_law_high", "_law_signs", "_law_begin", "_law_rows", "_law_row", "_law_line", "_law_column", "_law_k", "_law_sign_here"] ["_law_cell", "_law_wide", "_law_high"] (defScope vj) := by walk_at "sc"
noncomputable abbrev uN : Stmt := top 56
theorem jd : FnScope ["_law_cell", "_law_number", "_law_way", "_law_tall", "_law_wide"] ["_law_cell"] (defScope uN) := by walk_at "sc"
noncomputable abbrev uO : Stmt := top 57
theorem YF : FnScope ["_law_many"] ["_law_many"] (defScope uO) := by walk_at "sc"
noncomputable abbrev vt : Stmt := top 58
theorem jR : FnScope ["_law_own"] ["_law_own"] (defScope vt) := by walk_at "sc"
noncomputable abbrev uP : Stmt := top 59
theorem je : FnScope ["_law_own", "_law_number", "_law_row", "_law_column", "_law_rows", "_law_columns"] ["_law_own", "_law_number"] (defScope uP) := by walk_at "sc"
noncomputable abbrev ul : Stmt := top 60
theorem qy : FnScope ["_law_script", "_law_wide", "_law_high", "_law_place_here", "_law_edge", "_law_mode", "_law_own"] ["_law_script"] (defScope ul) := by walk_at "sc"
noncomputable abbrev qj : Stmt := top 61
theorem jS : FnScope ["_law_ink", "_law_marks"] ["_law_ink"] (defScope qj) := by walk_at "sc"
noncomputable abbrev vG : Stmt := top 62
theorem uQ : FnScope ["_law_state_here", "_law_own", "_law_row", "_law_column"] ["_law_state_here", "_law_own"] (defScope vG) := by walk_at "sc"
noncomputable abbrev uR : Stmt := top 63
theorem jf : FnScope ["_law_own", "_law_state_here", "_law_row", "_law_column"] ["_law_own"] (defScope uR) := by walk_at "sc"
noncomputable abbrev uc : Stmt := top 64
theorem ZH : FnScope ["_law_state_here", "_law_own", "_law_number"] ["_law_state_here", "_law_own", "_law_number"] (defScope uc) := by walk_at "sc"
noncomputable abbrev uS : Stmt := top 65
theorem jg : FnScope ["_law_state_here", "_law_own", "_law_names", "_law_found"] ["_law_state_here", "_law_own"] (defScope uS) := by walk_at "sc"
noncomputable abbrev uT : Stmt := top 66
theorem jh : FnScope ["_law_own", "_law_box", "_law_down", "_law_across", "_law_top", "_law_bottom", "_law_left", "_law_right_here", "_law_cells", "_law_fresh", "_law_row", "_law_column", "_law_one", "_law_other"] ["_law_own", "_law_box", "_law_down", "_law_across"] (defScope uT) := by walk_at "sc"
noncomputable abbrev um : Stmt := top 67
theorem Ye : FnScope ["_law_own"] ["_law_own"] (defScope um) := by walk_at "sc"
noncomputable abbrev vH : Stmt := top 68
theorem uU : FnScope ["_law_own"] ["_law_own"] (defScope vH) := by walk_at "sc"
noncomputable abbrev ql : Stmt := top 69
theorem jT : FnScope ["_law_own", "_law_sign_here", "_law_right_here", "_law_row", "_law_column", "_law_line"] ["_law_own", "_law_sign_here"] (defScope ql) := by walk_at "sc"
noncomputable abbrev qm : Stmt := top 70
theorem jU : FnScope ["_law_state_here", "_law_own", "_law_number", "_law_signs", "_law_way", "_law_more", "_law_many", "_law_turn", "_law_sign_here"] ["_law_state_here", "_law_own", "_law_number"] (defScope qm) := by walk_at "sc"
noncomputable abbrev qo : Stmt := top 71
theorem X7 : FnScope ["_law_own"] ["_law_own"] (defScope qo) := by walk_at "sc"
noncomputable abbrev Qs : Stmt := top 72
theorem Jz : FnScope ["_law_script", "_law_own", "_law_state_here", "_law_k", "_law_number", "_law_is_small", "_law_turn"] ["_law_script"] (defScope Qs) := by walk_at "sc"
structure Txt (K : PySem.W.Frag) (mg : Str → Option Value) (C : Addr) : Prop where
  n_len : mg "len" = none
  n_range : mg "range" = none
  n_int : mg "int" = none
  n_bool : mg "bool" = none
  n_dict : mg "dict" = none
  n_list : mg "list" = none
  n_tuple : mg "tuple" = none
  n_isinstance : mg "isinstance" = none
  n_sorted : mg "sorted" = none
  n_min : mg "min" = none
  n_max : mg "max" = none
  g_WIDEST : ∃ t, mg "WIDEST" = some (.int 24 t)
  g_HIGHEST : ∃ t, mg "HIGHEST" = some (.int 12 t)
  g_TAB_STEP : ∃ t, mg "TAB_STEP" = some (.int 4 t)
  g_ALL_MARKS : ∃ t, mg "ALL_MARKS" = some (.int 448 t)
  g_BITS_BY_MARK : ∃ a, mg "BITS_BY_MARK" = some (.ref a) ∧ DK K a [(0, 64), (1, 128), (2, 256)]
  mgC : mg "State" = some (.ref C)
  st : Sta K C
section
variable {P : Program} {w : World} {K : PySem.W.Frag} {mg : Str → Option Value} {base : Heap} {f C : Addr} {fd : FuncData}
theorem ZI (F : Fun K "at_least_one" "at_least_one" v0 f fd) (T : Txt K mg C) : FnOk P w K mg base CX0 1 f fd ["many"] (zd K kK) := by
  apply F.okV ZE (by rintro _ _ _ ⟨n, rfl, _⟩; rfl) (fun cdv A outer sh H E hr => (zf (yl (xz (ym jn (pv 0) xt (zN _)) zc (yU (jo rfl) (by rfl) T.n_max (by rfl) (QA.pa (qc zc (qc (pv 0) qn))))))))
  · walk_at "ref"
  rintro _ O R ⟨n, rfl, hn, h⟩
  rcases hn.cs with rfl | ⟨i, rfl, h0, h1⟩
  · walk_at "wd"
    exact .inl h
  · walk_at "wd"
    exact .inl h
theorem Qt (F : Fun K "counted" "counted" jN f fd) (T : Txt K mg C) (zfQ : Cal P w K mg base 1 "at_least_one" [] (zd K kK)) : FnOk P w K mg base CX0 2 f fd ["number", "first", "last"] (zd K qI) := by
  apply F.okV Qo (by rintro _ _ _ ⟨n, a, b, rfl, _⟩; rfl) (fun cdv A outer sh H E hr => (zf (yl (yU (vd rfl) (by rfl) T.n_min (by rfl) (QA.pa (qc (zi yX (zi yK (pv 1) (zn zfQ (hr.mono (by decide)) rfl (QA.pa (qc (pv 0) qn)))) zc) (qc (pv 2) qn)))))))
  · walk_at "ref"
  rintro _ O R ⟨n, a, b, rfl, hn, h⟩
  walk_at "wd"
  exact ⟨hn, .inl h⟩
theorem Yf (F : Fun K "_law_cell_at" "_law_cell_at" ub f fd) (T : Txt K mg C) : FnOk P w K mg base CX0 1 f fd ["_law_script", "_law_k"] (zd K qt) := by
  apply F.okV ZG (by rintro _ _ _ ⟨n, a, rfl, _⟩; rfl) (fun cdv A outer sh H E hr => (zb (yG (ym k7 (pv 1) (yU (Jf (K := K) rfl) (by rfl) T.n_len (by rfl) (QA.pa (qc (pv 0) qn))) (zN _)) (zf (yl (yN (xa (K := K) rfl) (pv 0) (pv 1) (fun _ _ => rfl)))) yx)
      (zf (yl zc))))
  · walk_at "ref"
  rintro _ O R ⟨ns, k, rfl, h⟩
  walk_at "wd"
  simp [UO, xA, yR]
  split
  · rename_i hk
    refine ⟨_, vN (by rw [List.getElem?_map, List.getElem?_eq_getElem hk]; rfl), .inl ?_⟩
    rw [List.getD_eq_getElem?_getD, List.getElem?_eq_getElem hk] at h
    exact h
  · rename_i hk
    rw [List.getD_eq_getElem?_getD, List.getElem?_eq_none (by omega)] at h
    exact .inl h
theorem X8 (F : Fun K "_law_mixed" "_law_mixed" uM f fd) (T : Txt K mg C) : FnOk P w K mg base CX0 1 f fd ["_law_cell", "_law_k"] (zd K uG) := by
  have nd := jc.nd
  apply F.okV jc (by rintro _ _ _ ⟨n, a, rfl, _⟩; rfl) (fun cdv A outer sh H E hr => (zb (z0 (i := 2) nd rfl (Or.inl rfl) (zi yK (zi yK (pv 0) (zi x3 zc (pv 1))) zc))
      (zf (yl (zi yJ (zi x3 (zi yJ (zi x3 (pv 2) (pv 2)) zc) zc) zc)))))
  · walk_at "ref"
  rintro _ O R ⟨c, k, rfl, h0, h1, hb, h⟩
  walk_at "wd"
  have b1 : Bt 1048602 (c + 7919 * k + 3) := (Bt.add (Bt.add hb ((Bt.small (a := 7919 * k) (by omega) (by omega)).mono (by decide))) ((Bt.small (a := 3) (by omega) (by omega)).mono (by decide)))
  exact ⟨mulL (by omega) (by omega), b1.mul b1 (by decide), mulR (by omega) (by omega), .inl h⟩
theorem X9 (F : Fun K "_law_times" "_law_times" uO f fd) (T : Txt K mg C) : FnOk P w K mg base CX0 1 f fd ["_law_many"] (zd K Zq) := by
  apply F.okV YF (by rintro _ _ _ ⟨n, rfl, _⟩; rfl) (fun cdv A outer sh H E hr => (zf (yl (xz (PW.pt (kW (ym jn (pv 0) xt (zN _)) (ji (ym xB (pv 0) zc (zN _))))) zc (pv 0)))))
  · walk_at "ref"
  rintro _ O R ⟨n, rfl, hn, h⟩
  rcases hn.cs with rfl | ⟨i, rfl, h0, h1⟩
  · walk_at "wd"
    exact .inl h
  · walk_at "wd"
    simp only [U2] at h
    split
    · rename_i e; rw [if_pos e] at h; exact .inl h
    · rename_i e; rw [if_neg e] at h; exact .inl h
theorem VA (F : Fun K "is_whole" "is_whole" qT f fd) (T : Txt K mg C) : FnOk P w K mg base CX0 1 f fd ["thing", "least", "most"] (zd K Zr) := by
  apply F.okV Vu (by rintro _ _ _ ⟨n, a, b, rfl, _⟩; rfl) (fun cdv A outer sh H E hr => (zf (yl (jk (yU (jA (K := K) rfl) (by rfl) T.n_isinstance (by rfl) (QA.pa (qc (pv 0) (qc (ZQ (v := .ty "int") (u := .type "int") rfl T.n_int rfl rfl) qn)))) (jk (zb6 (yU (jA (K := K) rfl) (by rfl) T.n_isinstance (by rfl) (QA.pa (qc (pv 0) (qc (ZQ (v := .ty "bool") (u := .type "bool") rfl T.n_bool rfl rfl) qn))))) (kY (kz xw xw (pv 1) (pv 0) (pv 2))))))))
  · walk_at "ref"
  rintro _ O R ⟨n, lo, hi, rfl, h⟩
  walk_at "wd"
  split
  · rename_i h1; simp [h1] at h; exact .inl h
  · rename_i h1; simp [h1] at h; exact .inl h
theorem Qu (F : Fun K "is_size" "is_size" jM f fd) (T : Txt K mg C) (zf7 : Cal P w K mg base 1 "is_whole" [] (zd K Zr)) : FnOk P w K mg base CX0 2 f fd ["wide", "high"] (zd K U3) := by
  apply F.okV Qn (by rintro _ _ _ ⟨a, b, rfl, _⟩; rfl) (fun cdv A outer sh H E hr => (zf (yl (jk (zn zf7 (hr.mono (by decide)) rfl (QA.pa (qc (pv 0) (qc zc (qc (Zj rfl T.g_WIDEST) qn))))) (kY (zn zf7 (hr.mono (by decide)) rfl (QA.pa (qc (pv 1) (qc zc (qc (Zj rfl T.g_HIGHEST) qn))))))))))
  · walk_at "ref"
  rintro _ O R ⟨a, b, rfl, a1, a2, b1, b2, h⟩
  walk_at "wd"
  have e1 : (1 : Int) ≤ a ∧ (a : Int) ≤ 24 := by omega
  have e2 : (1 : Int) ≤ b ∧ (b : Int) ≤ 12 := by omega
  simp [e1, e2]
  exact .inl h
theorem zbY (F : Fun K "span" "span" X5 f fd) (T : Txt K mg C) (zfQ : Cal P w K mg base 1 "at_least_one" [] (zd K kK)) : FnOk P w K mg base CX0 2 f fd ["first", "last", "size"] (zd K Zs) := by
  have nd := Uc.nd
  apply F.okV Uc (by rintro _ _ _ ⟨n, a, b, rfl, _⟩; rfl) (fun cdv A outer sh H E hr => (zb (z0 (i := 3) nd rfl (Or.inl rfl) (zn zfQ (hr.mono (by decide)) rfl (QA.pa (qc (pv 0) qn))))
      (zb (z0 (i := 4) nd rfl (Or.inl rfl) (xz (Jg (K := K) rfl (pv 1) (fun _ => rfl)) (yU (vd rfl) (by rfl) T.n_min (by rfl) (QA.pa (qc (pv 1) (qc (pv 2) qn)))) (pv 2)))
      (zf (yl (xz (ym k8 (pv 3) (pv 4) (zN _)) xt (yO (qc (zi yX (pv 3) zc) (qc (zi yX (pv 4) zc) qn)))))))))
  · walk_at "ref"
  rintro _ O R ⟨n, m, s, rfl, hn, hm, h⟩
  simp only [YT] at h
  have fin : ∀ E : Int, vh m s = E → if E < xn n then Clo R (.d .none) O else Clo R (.d (.tuple [.int (xn n - 1), .int (E - 1)])) O := by
    rintro E rfl
    split
    · rename_i e; rw [if_pos e] at h; exact .inl h
    · rename_i e; rw [if_neg e] at h; exact .inl h
  rcases hm.cs with rfl | ⟨i, rfl, h0, h1⟩
  · walk_at "wd"
    exact ⟨hn, fin s rfl⟩
  · walk_at "wd"
    refine ⟨hn, ?_⟩
    by_cases hi : i = 0
    · first | exact .inl ⟨hi, fin s (by simp [vh, hi])⟩ | (rw [if_pos hi]; exact fin s (by simp [vh, hi]))
    · first | exact .inr ⟨hi, fin _ (by simp [vh, hi])⟩ | (rw [if_neg hi]; exact fin _ (by simp [vh, hi]))
theorem Qv (F : Fun K "fore_of" "fore_of" jK f fd) (T : Txt K mg C) : FnOk P w K mg base CX0 1 f fd ["ink"] (zd K (sI1 (fun _ => True) fun i => Builtin.bitAnd i 7)) := by
  apply F.okV Ql (by rintro _ _ _ ⟨n, rfl, _⟩; rfl) (fun cdv A outer sh H E hr => (zf (yl (zi k6 (pv 0) zc))))
  · walk_at "ref"
  rintro _ O R ⟨n, rfl, _, h⟩
  walk_at "wd"
  exact .inl h
theorem Qw (F : Fun K "back_of" "back_of" jL f fd) (T : Txt K mg C) : FnOk P w K mg base CX0 1 f fd ["ink"] (zd K (sI1 (fun _ => True) fun i => Builtin.bitAnd (i / 8) 7)) := by
  apply F.okV Qm (by rintro _ _ _ ⟨n, rfl, _⟩; rfl) (fun cdv A outer sh H E hr => (zf (yl (zi k6 (zi QI (pv 0) zc) zc))))
  · walk_at "ref"
  rintro _ O R ⟨n, rfl, _, h⟩
  walk_at "wd"
  exact .inl h
theorem VB (F : Fun K "marks_of" "marks_of" qU f fd) (T : Txt K mg C) : FnOk P w K mg base CX0 1 f fd ["ink"] (zd K (sI1 (fun _ => True) fun i => Builtin.bitAnd (i / 64) 7)) := by
  apply F.okV Vv (by rintro _ _ _ ⟨n, rfl, _⟩; rfl) (fun cdv A outer sh H E hr => (zf (yl (zi k6 (zi QI (pv 0) zc) zc))))
  · walk_at "ref"
  rintro _ O R ⟨n, rfl, _, h⟩
  walk_at "wd"
  exact .inl h
theorem YA {d : Value} (F : FunD K "ink_of" "ink_of" uJ [d] f fd) (T : Txt K mg C) : FnOk P w K mg base CX0 1 f fd ["fore", "back", "marks"] (zd K qu) := by
  apply F.okV Jw (by rintro _ _ _ ⟨n, a, b, rfl, _⟩; rfl) (fun cdv A outer sh H E hr => (zf (yl (zi yK (zi yK (pv 0) (zi x3 zc (pv 1))) (zi x3 zc (pv 2))))))
  · walk_at "ref"
  rintro _ O R ⟨a, b, c, rfl, ⟨b1, b2, c1, c2⟩, h⟩
  walk_at "wd"
  exact ⟨mulL (by omega) (by omega), mulL (by omega) (by omega), .inl h⟩
theorem ZJ (F : Fun K "turned_marks" "turned_marks" vZ f fd) (T : Txt K mg C) : FnOk P w K mg base CX0 1 f fd ["ink"] (zd K (sI1 (fun _ => True) fun i => Builtin.bitXor i 448)) := by
  apply F.okV ZD (by rintro _ _ _ ⟨n, rfl, _⟩; rfl) (fun cdv A outer sh H E hr => (zf (yl (zi zcd (pv 0) (Zj rfl T.g_ALL_MARKS)))))
  · walk_at "ref"
  rintro _ O R ⟨n, rfl, _, h⟩
  walk_at "wd"
  exact .inl h
theorem Va (F : Fun K "with_mark" "with_mark" qg f fd) (T : Txt K mg C) : FnOk P w K mg base CX0 1 f fd ["ink", "mark"] (zd K (sI2 (fun _ _ => True) fun i m => Builtin.bitOr i ((xN [(0, 64), (1, 128), (2, 256)] m).getD 0))) := by
  obtain ⟨aB, hB, dB⟩ := T.g_BITS_BY_MARK
  apply F.okV X0 (by rintro _ _ _ ⟨n, m, rfl, _⟩; rfl) (fun cdv A outer sh H E hr => (zf (yl (zi zdy (pv 0) (Xx (K := K) rfl (ZP (v := .ref aB) (u := .ref aB) rfl hB rfl) (QA.pa (qc (pv 1) (qc zc qn))))))))
  · walk_at "ref"
  rintro _ O R ⟨n, m, rfl, _, h⟩
  walk_at "wd"
  exact ⟨_, dB, .inl h⟩
theorem ZK (F : Fun K "without_mark" "without_mark" vY f fd) (T : Txt K mg C) : FnOk P w K mg base CX0 1 f fd ["ink", "mark"] (zd K (sI2 (fun _ _ => True) fun i m => Builtin.bitAnd i (Builtin.bitNot ((xN [(0, 64), (1, 128), (2, 256)] m).getD 0)))) := by
  obtain ⟨aB, hB, dB⟩ := T.g_BITS_BY_MARK
  apply F.okV ZC (by rintro _ _ _ ⟨n, m, rfl, _⟩; rfl) (fun cdv A outer sh H E hr => (zf (yl (zi k6 (pv 0) (Ul zce (Xx (K := K) rfl (ZP (v := .ref aB) (u := .ref aB) rfl hB rfl) (QA.pa (qc (pv 1) (qc zc qn)))))))))
  · walk_at "ref"
  rintro _ O R ⟨n, m, rfl, _, h⟩
  walk_at "wd"
  exact ⟨_, dB, .inl h⟩
end
section
variable {P : Program} {w : World} {K : PySem.W.Frag} {mg : Str → Option Value} {base : Heap} {f C : Addr} {fd : FuncData}
theorem Vb (F : Fun K "with_fore" "with_fore" qe f fd) (T : Txt K mg C) (zf4 : Cal P w K mg base 1 "ink_of" [] (zd K qu)) (zfR : Cal P w K mg base 1 "back_of" [] (zd K (sI1 (fun _ => True) fun i => Builtin.bitAnd (i / 8) 7))) (zf9 : Cal P w K mg base 1 "marks_of" [] (zd K (sI1 (fun _ => True) fun i => Builtin.bitAnd (i / 64) 7))) :
    FnOk P w K mg base CX0 2 f fd ["ink", "hue"] (zd K (sI2 (fun i _ => Ink i) fun i h => h + 8 * Builtin.bitAnd (i / 8) 7 + 64 * Builtin.bitAnd (i / 64) 7)) := by
  apply F.okV XY (by rintro _ _ _ ⟨n, m, rfl, _⟩; rfl) (fun cdv A outer sh H E hr => (zf (yl (zn zf4 (hr.mono (by decide)) rfl (QA.pa (qc (pv 1) (qc (zn zfR (hr.mono (by decide)) rfl (QA.pa (qc (pv 0) qn))) (qc (zn zf9 (hr.mono (by decide)) rfl (QA.pa (qc (pv 0) qn))) qn))))))))
  · walk_at "ref"
  rintro _ O R ⟨n, m, rfl, hi, h⟩
  have a1 := KM hi
  have a2 := Yu hi
  walk_at "wd"
  exact ⟨by omega, by omega, by omega, by omega, .inl h⟩
theorem Vc (F : Fun K "with_back" "with_back" qf f fd) (T : Txt K mg C) (zf4 : Cal P w K mg base 1 "ink_of" [] (zd K qu)) (zf3 : Cal P w K mg base 1 "fore_of" [] (zd K (sI1 (fun _ => True) fun i => Builtin.bitAnd i 7))) (zf9 : Cal P w K mg base 1 "marks_of" [] (zd K (sI1 (fun _ => True) fun i => Builtin.bitAnd (i / 64) 7))) :
    FnOk P w K mg base CX0 2 f fd ["ink", "hue"] (zd K (sI2 (fun i h => Ink i ∧ 0 ≤ h ∧ h ≤ 10) fun i h => Builtin.bitAnd i 7 + 8 * h + 64 * Builtin.bitAnd (i / 64) 7)) := by
  apply F.okV XZ (by rintro _ _ _ ⟨n, m, rfl, _⟩; rfl) (fun cdv A outer sh H E hr => (zf (yl (zn zf4 (hr.mono (by decide)) rfl (QA.pa (qc (zn zf3 (hr.mono (by decide)) rfl (QA.pa (qc (pv 0) qn))) (qc (pv 1) (qc (zn zf9 (hr.mono (by decide)) rfl (QA.pa (qc (pv 0) qn))) qn))))))))
  · walk_at "ref"
  rintro _ O R ⟨n, m, rfl, ⟨hi, m1, m2⟩, h⟩
  have a2 := Yu hi
  walk_at "wd"
  exact ⟨by omega, by omega, by omega, by omega, .inl h⟩
theorem zbZ (F : Fun K "dyed" "dyed" X6 f fd) (T : Txt K mg C) (zgp : Cal P w K mg base 1 "with_mark" [] (zd K (sI2 (fun _ _ => True) fun i m => Builtin.bitOr i ((xN [(0, 64), (1, 128), (2, 256)] m).getD 0))))
    (zgq : Cal P w K mg base 1 "without_mark" [] (zd K (sI2 (fun _ _ => True) fun i m => Builtin.bitAnd i (Builtin.bitNot ((xN [(0, 64), (1, 128), (2, 256)] m).getD 0))))) (zgm : Cal P w K mg base 1 "turned_marks" [] (zd K (sI1 (fun _ => True) fun i => Builtin.bitXor i 448)))
    (zgo : Cal P w K mg base 2 "with_fore" [] (zd K (sI2 (fun i _ => Ink i) fun i h => h + 8 * Builtin.bitAnd (i / 8) 7 + 64 * Builtin.bitAnd (i / 64) 7))) (zgn : Cal P w K mg base 2 "with_back" [] (zd K (sI2 (fun i h => Ink i ∧ 0 ≤ h ∧ h ≤ 10) fun i h => Builtin.bitAnd i 7 + 8 * h + 64 * Builtin.bitAnd (i / 64) 7))) :
    FnOk P w K mg base CX0 3 f fd ["ink", "number"] (zd K YU) := by
  apply F.okV zbX (by rintro _ _ _ ⟨n, m, rfl, _⟩; rfl) (fun cdv A outer sh H E hr => (zb (yG (PW.pt (kW (ym jn (pv 1) xt (zN _)) (ji (ym xB (pv 1) zc (zN _))))) (zf (yl zc)) yx)
      (zb (yG (vM xw xw zc (pv 1) zc) (zf (yl (zn zgp (hr.mono (by decide)) rfl (QA.pa (qc (pv 0) (qc (zi yX (pv 1) zc) qn)))))) yx)
      (zb (yG (vM xw xw zc (pv 1) zc) (zf (yl (zn zgq (hr.mono (by decide)) rfl (QA.pa (qc (pv 0) (qc (zi yX (pv 1) zc) qn)))))) yx)
      (zb (yG (ym xB (pv 1) zc (zN _)) (zf (yl (zn zgm (hr.mono (by decide)) rfl (QA.pa (qc (pv 0) qn))))) yx)
      (zb (yG (vM xw xw zc (pv 1) zc) (zf (yl (zn zgo (hr.mono (by decide)) rfl (QA.pa (qc (pv 0) (qc (zi yX (pv 1) zc) qn)))))) yx)
      (zb (yG (vM xw xw zc (pv 1) zc) (zf (yl (zn zgn (hr.mono (by decide)) rfl (QA.pa (qc (pv 0) (qc (zi yX (pv 1) zc) qn)))))) yx)
      (zf (yl (pv 0))))))))))
  · walk_at "ref"
  rintro _ O R ⟨ink, n, rfl, hi, hn, h⟩
  rcases hn.cs with rfl | ⟨i, rfl, h0, h1⟩
  · walk_at "wd"
    exact .inl h
  · have key : ∀ v, vV ink (.int i) = v → Clo R (.d (.int v)) O := fun v e => by rw [e] at h; exact .inl h
    walk_at "wd"
    repeat' split
    all_goals first
      | exact key _ (by simp only [vV]; repeat' (first | rw [if_pos (by omega)] | rw [if_neg (by omega)]))
      | exact ⟨hi, key _ (by simp only [vV]; repeat' (first | rw [if_pos (by omega)] | rw [if_neg (by omega)]))⟩
      | exact ⟨hi, by omega, by omega, key _ (by simp only [vV]; repeat' (first | rw [if_pos (by omega)] | rw [if_neg (by omega)]))⟩
theorem K5 (F : Fun K "edges" "edges" Yc f fd) (T : Txt K mg C) : FnOk P w K mg base CX0 1 f fd ["state"] (zd K (jB C)) := by
  have nd := X2.nd
  apply F.okV X2 (by rintro _ _ _ ⟨x, dx, p, st, kp, S, rfl, _⟩; rfl) (fun cdv A outer sh H E hr => (zb (z0 (i := 1) nd rfl (Or.inl rfl) (xz (ym Uq (zo (K := K) rfl (pv 0) rfl) (zo (K := K) rfl (pv 0) rfl) (zN _)) (zo (K := K) rfl (pv 0) rfl) zc))
      (zb (z0 (i := 2) nd rfl (Or.inl rfl) (xz (ym xw (zo (K := K) rfl (pv 0) rfl) (zo (K := K) rfl (pv 0) rfl) (zN _)) (zo (K := K) rfl (pv 0) rfl) (zi yX (zo (K := K) rfl (pv 0) rfl) zc)))
      (zb (z0 (i := 3) nd rfl (Or.inl rfl) (xz (ym Uq (zo (K := K) rfl (pv 0) rfl) (zo (K := K) rfl (pv 0) rfl) (zN _)) (zo (K := K) rfl (pv 0) rfl) zc))
      (zb (z0 (i := 4) nd rfl (Or.inl rfl) (xz (ym xw (zo (K := K) rfl (pv 0) rfl) (zo (K := K) rfl (pv 0) rfl) (zN _)) (zo (K := K) rfl (pv 0) rfl) (zi yX (zo (K := K) rfl (pv 0) rfl) zc)))
      (zf (yl (yO (qc (pv 1) (qc (pv 2) (qc (pv 3) (qc (pv 4) qn))))))))))))
  · walk_at "ref"
  rintro _ O R ⟨x, dx, p, st, kp, S, rfl, hs, h⟩
  have hx := hs.x
  refine yp (fun ρ' O' => ρ' = [some (.own x), some (.d (.int (eT S))), none, none, none] ∧ O = O') (fun R1 hR1 => ?_) ?_
  · walk_at "wd"
    simp [hx, and_assoc, zk, T.st.cl, T.st.n_picture, T.st.n_wide, T.st.n_high, T.st.n_row, T.st.n_column, T.st.n_late, T.st.n_ink, T.st.n_wrap, T.st.n_putting, T.st.n_home, T.st.n_top, T.st.n_bottom, T.st.n_left, T.st.n_right, T.st.n_stops, T.st.n_kept, T.st.n_last, zu, z7, z9, yz, zC, ya, yA, yb, zv, yc, yB, zD, yd, zK, zL, ye, yf, yC, zE, yg, yD, yh, zw, yi, yE, zF, yj, zM, yk]
    split
    · rename_i e; exact hR1 _ _ ⟨by rw [eT, if_pos e], rfl⟩
    · rename_i e; exact hR1 _ _ ⟨by rw [eT, if_neg e], rfl⟩
  rintro _ _ ⟨rfl, rfl⟩
  refine yp (fun ρ' O' => ρ' = [some (.own x), some (.d (.int (eT S))), some (.d (.int (eB S))), none, none] ∧ O = O') (fun R1 hR1 => ?_) ?_
  · walk_at "wd"
    simp [hx, and_assoc, zk, T.st.cl, T.st.n_picture, T.st.n_wide, T.st.n_high, T.st.n_row, T.st.n_column, T.st.n_late, T.st.n_ink, T.st.n_wrap, T.st.n_putting, T.st.n_home, T.st.n_top, T.st.n_bottom, T.st.n_left, T.st.n_right, T.st.n_stops, T.st.n_kept, T.st.n_last, zu, z7, z9, yz, zC, ya, yA, yb, zv, yc, yB, zD, yd, zK, zL, ye, yf, yC, zE, yg, yD, yh, zw, yi, yE, zF, yj, zM, yk]
    split
    · rename_i e; exact hR1 _ _ ⟨by rw [eB, if_pos e], rfl⟩
    · rename_i e; exact hR1 _ _ ⟨by rw [eB, if_neg e], rfl⟩
  rintro _ _ ⟨rfl, rfl⟩
  refine yp (fun ρ' O' => ρ' = [some (.own x), some (.d (.int (eT S))), some (.d (.int (eB S))), some (.d (.int (eL S))), none] ∧ O = O') (fun R1 hR1 => ?_) ?_
  · walk_at "wd"
    simp [hx, and_assoc, zk, T.st.cl, T.st.n_picture, T.st.n_wide, T.st.n_high, T.st.n_row, T.st.n_column, T.st.n_late, T.st.n_ink, T.st.n_wrap, T.st.n_putting, T.st.n_home, T.st.n_top, T.st.n_bottom, T.st.n_left, T.st.n_right, T.st.n_stops, T.st.n_kept, T.st.n_last, zu, z7, z9, yz, zC, ya, yA, yb, zv, yc, yB, zD, yd, zK, zL, ye, yf, yC, zE, yg, yD, yh, zw, yi, yE, zF, yj, zM, yk]
    split
    · rename_i e; exact hR1 _ _ ⟨by rw [eL, if_pos e], rfl⟩
    · rename_i e; exact hR1 _ _ ⟨by rw [eL, if_neg e], rfl⟩
  rintro _ _ ⟨rfl, rfl⟩
  refine yp (fun ρ' O' => ρ' = [some (.own x), some (.d (.int (eT S))), some (.d (.int (eB S))), some (.d (.int (eL S))), some (.d (.int (eR S)))] ∧ O = O') (fun R1 hR1 => ?_) ?_
  · walk_at "wd"
    simp [hx, and_assoc, zk, T.st.cl, T.st.n_picture, T.st.n_wide, T.st.n_high, T.st.n_row, T.st.n_column, T.st.n_late, T.st.n_ink, T.st.n_wrap, T.st.n_putting, T.st.n_home, T.st.n_top, T.st.n_bottom, T.st.n_left, T.st.n_right, T.st.n_stops, T.st.n_kept, T.st.n_last, zu, z7, z9, yz, zC, ya, yA, yb, zv, yc, yB, zD, yd, zK, zL, ye, yf, yC, zE, yg, yD, yh, zw, yi, yE, zF, yj, zM, yk]
    split
    · rename_i e; exact hR1 _ _ ⟨by rw [eR, if_pos e], rfl⟩
    · rename_i e; exact hR1 _ _ ⟨by rw [eR, if_neg e], rfl⟩
  rintro _ _ ⟨rfl, rfl⟩
  walk_at "wd"
  exact .inl h
theorem VC (F : Fun K "blank_of" "blank_of" qV f fd) (T : Txt K mg C) : FnOk P w K mg base CX0 1 f fd ["state"] (zd K (qJ C)) := by
  apply F.okV Vw (by rintro _ _ _ ⟨x, dx, p, st, kp, S, rfl, _⟩; rfl) (fun cdv A outer sh H E hr => (zf (yl (yO (qc ze (qc (zo (K := K) rfl (pv 0) rfl) qn))))))
  · walk_at "ref"
  rintro _ O R ⟨x, dx, p, st, kp, S, rfl, hs, h⟩
  have hx := hs.x
  walk_at "wd"
  simp [hx, yM, and_assoc, zk, T.st.cl, T.st.n_picture, T.st.n_wide, T.st.n_high, T.st.n_row, T.st.n_column, T.st.n_late, T.st.n_ink, T.st.n_wrap, T.st.n_putting, T.st.n_home, T.st.n_top, T.st.n_bottom, T.st.n_left, T.st.n_right, T.st.n_stops, T.st.n_kept, T.st.n_last, zu, z7, z9, yz, zC, ya, yA, yb, zv, yc, yB, zD, yd, zK, zL, ye, yf, yC, zE, yg, yD, yh, zw, yi, yE, zF, yj, zM, yk]
  exact .inl h
theorem VD (F : Fun K "to_place" "to_place" qW f fd) (T : Txt K mg C) (zfY : Cal P w K mg base 2 "counted" [] (zd K qI)) : FnOk P w K mg base CX0 3 f fd ["state", "row", "column"] (zd K (Zt C)) := by
  apply F.okV Vx (by rintro _ _ _ ⟨r, c, _, _, x, dx, p, st, kp, S, rfl, _⟩; rfl) (fun cdv A outer sh H E hr => (zb (yG (xb (zo (K := K) rfl (pv 0) rfl)) (zb (yF (K := K) rfl (pv 0) (zn zfY (hr.mono (by decide)) rfl (QA.pa (qc (pv 1) (qc (zo (K := K) rfl (pv 0) rfl) (qc (zo (K := K) rfl (pv 0) rfl) qn))))) rfl)
      (zf (yF (K := K) rfl (pv 0) (zn zfY (hr.mono (by decide)) rfl (QA.pa (qc (pv 2) (qc (zo (K := K) rfl (pv 0) rfl) (qc (zo (K := K) rfl (pv 0) rfl) qn))))) rfl))) (zb (yF (K := K) rfl (pv 0) (zn zfY (hr.mono (by decide)) rfl (QA.pa (qc (pv 1) (qc zc (qc (zi yX (zo (K := K) rfl (pv 0) rfl) zc) qn))))) rfl)
      (zf (yF (K := K) rfl (pv 0) (zn zfY (hr.mono (by decide)) rfl (QA.pa (qc (pv 2) (qc zc (qc (zi yX (zo (K := K) rfl (pv 0) rfl) zc) qn))))) rfl))))
      (zf (yF (K := K) rfl (pv 0) xr rfl))))
  · walk_at "ref"
  rintro _ O R ⟨r, c, hr, hc, x, dx, p, st, kp, S, rfl, hs, _, h⟩
  have hx := hs.x
  simp only [plS] at h
  walk_at "wd"
  simp [hx, hr, hc, yQ, and_assoc, zk, T.st.cl, T.st.n_picture, T.st.n_wide, T.st.n_high, T.st.n_row, T.st.n_column, T.st.n_late, T.st.n_ink, T.st.n_wrap, T.st.n_putting, T.st.n_home, T.st.n_top, T.st.n_bottom, T.st.n_left, T.st.n_right, T.st.n_stops, T.st.n_kept, T.st.n_last, zu, z7, z9, yz, zC, ya, yA, yb, zv, yc, yB, zD, yd, zK, zL, ye, yf, yC, zE, yg, yD, yh, zw, yi, yE, zF, yj, zM, yk]
  cases hh : S.home with
  | true =>
    simp [hh] at h ⊢
    exact .inl (h _ (hs.fld rfl rfl rfl) But.ux)
  | false =>
    simp [hh] at h ⊢
    exact .inl (h _ (hs.fld rfl rfl rfl) But.ux)
theorem Qx (F : Fun K "to_home" "to_home" jO f fd) (T : Txt K mg C) (zgk : Cal P w K mg base 3 "to_place" [] (zd K (Zt C))) : FnOk P w K mg base CX0 4 f fd ["state"] (zd K (Zu C)) := by
  apply F.okV Qp (by rintro _ _ _ ⟨x, dx, p, st, kp, S, rfl, _⟩; rfl) (fun cdv A outer sh H E hr => (zf (yn (zn zgk (hr.mono (by decide)) rfl (QA.pa (qc (pv 0) (qc xt (qc xt qn))))))))
  · walk_at "ref"
  rintro _ O R ⟨x, dx, p, st, kp, S, rfl, hs, _, h⟩
  walk_at "wd"
  exact ⟨.none, .none, trivial, trivial, x, dx, p, st, kp, S, rfl, hs, trivial, fun O' h1 h2 => .inl (h O' h1 h2)⟩
end
section
variable {P : Program} {w : World} {K : PySem.W.Frag} {mg : Str → Option Value} {base : Heap} {f C : Addr} {fd : FuncData}
theorem VE (F : Fun K "set_rows" "set_rows" qZ f fd) (T : Txt K mg C) (zgh : Cal P w K mg base 2 "span" [] (zd K Zs)) (zgi : Cal P w K mg base 4 "to_home" [] (zd K (Zu C))) : FnOk P w K mg base CX0 5 f fd ["state", "first", "last"] (zd K (U4 C)) := by
  have nd := ku.nd
  apply F.okV ku (by rintro _ _ _ ⟨r, c, _, _, x, dx, p, st, kp, S, rfl, _⟩; rfl) (fun cdv A outer sh H E hr => (zb (z0 (i := 3) nd rfl (Or.inl rfl) (zn zgh (hr.mono (by decide)) rfl (QA.pa (qc (pv 1) (qc (pv 2) (qc (zo (K := K) rfl (pv 0) rfl) qn))))))
      (zf (yG (ym vL (pv 3) xt (zN _)) (zb (yF (K := K) rfl (pv 0) (yN (uE (K := K) rfl) (pv 3) zc (fun _ _ => rfl)) rfl)
      (zb (yF (K := K) rfl (pv 0) (yN (uE (K := K) rfl) (pv 3) zc (fun _ _ => rfl)) rfl)
      (zf (yn (zn zgi (hr.mono (by decide)) rfl (QA.pa (qc (pv 0) qn))))))) yx))))
  · walk_at "ref"
  rintro _ O R ⟨a, b, ha, hb, x, dx, p, st, kp, S, rfl, hs, _, h⟩
  have hx := hs.x
  simp only [YV] at h
  walk_at "wd"
  simp [hx, ha, hb, yQ, YT, and_assoc, zk, T.st.cl, T.st.n_picture, T.st.n_wide, T.st.n_high, T.st.n_row, T.st.n_column, T.st.n_late, T.st.n_ink, T.st.n_wrap, T.st.n_putting, T.st.n_home, T.st.n_top, T.st.n_bottom, T.st.n_left, T.st.n_right, T.st.n_stops, T.st.n_kept, T.st.n_last, zu, z7, z9, yz, zC, ya, yA, yb, zv, yc, yB, zD, yd, zK, zL, ye, yf, yC, zE, yg, yD, yh, zw, yi, yE, zF, yj, zM, yk]
  by_cases e : vh b S.h < xn a
  · rw [if_pos e] at h
    simp [e, x9]
    exact .inl (h _ hs But.refl)
  · rw [if_neg e] at h
    simp [e, x9, atI, ixN, xA, hx, yQ, and_assoc, zk, T.st.cl, T.st.n_picture, T.st.n_wide, T.st.n_high, T.st.n_row, T.st.n_column, T.st.n_late, T.st.n_ink, T.st.n_wrap, T.st.n_putting, T.st.n_home, T.st.n_top, T.st.n_bottom, T.st.n_left, T.st.n_right, T.st.n_stops, T.st.n_kept, T.st.n_last, zu, z7, z9, yz, zC, ya, yA, yb, zv, yc, yB, zD, yd, zK, zL, ye, yf, yC, zE, yg, yD, yh, zw, yi, yE, zF, yj, zM, yk]
    refine ⟨x, dx, p, st, kp, _, rfl, hs.fld (S' := { S with top := xn a - 1, bottom := vh b S.h - 1 }) rfl rfl rfl, trivial, fun O' h1 h2 => .inl (h O' h1 (But.ux.trans h2))⟩
theorem Yg (F : Fun K "set_columns" "set_columns" uk f fd) (T : Txt K mg C) (zgh : Cal P w K mg base 2 "span" [] (zd K Zs)) (zgi : Cal P w K mg base 4 "to_home" [] (zd K (Zu C))) : FnOk P w K mg base CX0 5 f fd ["state", "first", "last"] (zd K (U5 C)) := by
  have nd := qw.nd
  apply F.okV qw (by rintro _ _ _ ⟨r, c, _, _, x, dx, p, st, kp, S, rfl, _⟩; rfl) (fun cdv A outer sh H E hr => (zb (z0 (i := 3) nd rfl (Or.inl rfl) (zn zgh (hr.mono (by decide)) rfl (QA.pa (qc (pv 1) (qc (pv 2) (qc (zo (K := K) rfl (pv 0) rfl) qn))))))
      (zf (yG (ym vL (pv 3) xt (zN _)) (zb (yF (K := K) rfl (pv 0) (yN (uE (K := K) rfl) (pv 3) zc (fun _ _ => rfl)) rfl)
      (zb (yF (K := K) rfl (pv 0) (yN (uE (K := K) rfl) (pv 3) zc (fun _ _ => rfl)) rfl)
      (zf (yn (zn zgi (hr.mono (by decide)) rfl (QA.pa (qc (pv 0) qn))))))) yx))))
  · walk_at "ref"
  rintro _ O R ⟨a, b, ha, hb, x, dx, p, st, kp, S, rfl, hs, _, h⟩
  have hx := hs.x
  simp only [YW] at h
  walk_at "wd"
  simp [hx, ha, hb, yQ, YT, and_assoc, zk, T.st.cl, T.st.n_picture, T.st.n_wide, T.st.n_high, T.st.n_row, T.st.n_column, T.st.n_late, T.st.n_ink, T.st.n_wrap, T.st.n_putting, T.st.n_home, T.st.n_top, T.st.n_bottom, T.st.n_left, T.st.n_right, T.st.n_stops, T.st.n_kept, T.st.n_last, zu, z7, z9, yz, zC, ya, yA, yb, zv, yc, yB, zD, yd, zK, zL, ye, yf, yC, zE, yg, yD, yh, zw, yi, yE, zF, yj, zM, yk]
  by_cases e : vh b S.w < xn a
  · rw [if_pos e] at h
    simp [e, x9]
    exact .inl (h _ hs But.refl)
  · rw [if_neg e] at h
    simp [e, x9, atI, ixN, xA, hx, yQ, and_assoc, zk, T.st.cl, T.st.n_picture, T.st.n_wide, T.st.n_high, T.st.n_row, T.st.n_column, T.st.n_late, T.st.n_ink, T.st.n_wrap, T.st.n_putting, T.st.n_home, T.st.n_top, T.st.n_bottom, T.st.n_left, T.st.n_right, T.st.n_stops, T.st.n_kept, T.st.n_last, zu, z7, z9, yz, zC, ya, yA, yb, zv, yc, yB, zD, yd, zK, zL, ye, yf, yC, zE, yg, yD, yh, zw, yi, yE, zF, yj, zM, yk]
    refine ⟨x, dx, p, st, kp, _, rfl, hs.fld (S' := { S with left := xn a - 1, right := vh b S.w - 1 }) rfl rfl rfl, trivial, fun O' h1 h2 => .inl (h O' h1 (But.ux.trans h2))⟩
theorem ZL (F : Fun K "to_left_edge" "to_left_edge" ua f fd) (T : Txt K mg C) (zf1 : Cal P w K mg base 1 "edges" [] (zd K (jB C))) : FnOk P w K mg base CX0 2 f fd ["state"] (zd K (U8 C)) := by
  apply F.okV ZF (by rintro _ _ _ ⟨x, dx, p, st, kp, S, rfl, _⟩; rfl) (fun cdv A outer sh H E hr => (zb (yF (K := K) rfl (pv 0) (yN (uE (K := K) rfl) (zn zf1 (hr.mono (by decide)) rfl (QA.pa (qc (pv 0) qn))) zc (fun _ _ => rfl)) rfl)
      (zf (yF (K := K) rfl (pv 0) xr rfl))))
  · walk_at "ref"
  rintro _ O R ⟨x, dx, p, st, kp, S, rfl, hs, _, h⟩
  have hx := hs.x
  walk_at "wd"
  refine ⟨x, dx, p, st, kp, S, rfl, hs, ?_⟩
  simp [hx, yQ, atI, ixN, and_assoc, zk, T.st.cl, T.st.n_picture, T.st.n_wide, T.st.n_high, T.st.n_row, T.st.n_column, T.st.n_late, T.st.n_ink, T.st.n_wrap, T.st.n_putting, T.st.n_home, T.st.n_top, T.st.n_bottom, T.st.n_left, T.st.n_right, T.st.n_stops, T.st.n_kept, T.st.n_last, zu, z7, z9, yz, zC, ya, yA, yb, zv, yc, yB, zD, yd, zK, zL, ye, yf, yC, zE, yg, yD, yh, zw, yi, yE, zF, yj, zM, yk]
  exact .inl (h _ (hs.fld rfl rfl rfl) But.ux)
theorem zdv (F : Fun K "dye" "dye" Qr f fd) (T : Txt K mg C) (zf0 : Cal P w K mg base 3 "dyed" [] (zd K YU)) : FnOk P w K mg base CX0 4 f fd ["state", "numbers"] (zd K (U6 C)) := by
  have nd := Jy.nd
  apply F.okV Jy (by rintro _ _ _ ⟨ns, _, x, dx, p, st, kp, S, rfl, _⟩; rfl) (fun cdv A outer sh H E hr => (zf (xE PassesOwn.never rfl (Z5 (K := K) rfl (pv 1)) (yI (i := 2) nd rfl (Or.inl rfl))
      (zf (yF (K := K) rfl (pv 0) (zn zf0 (hr.mono (by decide)) rfl (QA.pa (qc (zo (K := K) rfl (pv 0) rfl) (qc (pv 2) qn)))) rfl)))))
  · walk_at "ref"
  rintro _ O R ⟨ns, hns, x, dx, p, st, kp, S, rfl, hs, hi, h⟩
  walk_at "wd"
  refine xj.by (fun i ρ O' => ∃ v, ρ = [some (.own x), some (.d (.tuple ns)), v] ∧ StAt O' C x dx p st kp (qK (ns.take i) S) ∧ Ink (qK (ns.take i) S).ink ∧ But O O' x p) ⟨_, rfl, hs, hi, But.refl⟩ (fun _ _ _ _ => trivial) ?_ ?_
  · rintro i wv _ O1 hw ⟨v, rfl, hs1, hi1, hb1⟩ R1 hR1
    rw [List.getElem?_map] at hw
    cases hni : ns[i]? with
    | none => rw [hni] at hw; cases hw
    | some n =>
      rw [hni] at hw
      cases hw
      have hx1 := hs1.x
      have hn := hns n (List.mem_of_getElem? hni)
      walk_at "wd"
      simp [hx1, hi1, hn, yQ, and_assoc, zk, T.st.cl, T.st.n_picture, T.st.n_wide, T.st.n_high, T.st.n_row, T.st.n_column, T.st.n_late, T.st.n_ink, T.st.n_wrap, T.st.n_putting, T.st.n_home, T.st.n_top, T.st.n_bottom, T.st.n_left, T.st.n_right, T.st.n_stops, T.st.n_kept, T.st.n_last, zu, z7, z9, yz, zC, ya, yA, yb, zv, yc, yB, zD, yd, zK, zL, ye, yf, yC, zE, yg, yD, yh, zw, yi, yE, zF, yj, zM, yk]
      have et : ns.take (i + 1) = ns.take i ++ [n] := by
        rw [List.take_add_one, hni]; rfl
      refine hR1 _ _ ⟨_, rfl, ?_, ?_, hb1.trans But.ux⟩
      · have := hs1.fld (S' := { qK (ns.take i) S with ink := vV (qK (ns.take i) S).ink n }) rfl rfl rfl
        rw [et]
        simpa [qK, List.foldl_append] using this
      · rw [et]
        simp only [qK, List.foldl_append, List.foldl_cons, List.foldl_nil]
        exact KN hi1
  · rintro ρ O1 ⟨v, rfl, hs1, _, hb1⟩
    simp at hs1
    exact .inl (h _ hs1 hb1)
end
section
variable {P : Program} {w : World} {K : PySem.W.Frag} {mg : Str → Option Value} {base : Heap} {f C : Addr} {fd : FuncData}
theorem YG (F : Fun K "turn_modes" "turn_modes" uL f fd) (T : Txt K mg C) (zgi : Cal P w K mg base 4 "to_home" [] (zd K (Zu C))) : FnOk P w K mg base CX0 5 f fd ["state", "numbers", "on"] (zd K (Zv C)) := by
  have nd := jb.nd
  apply F.okV jb (by rintro _ _ _ ⟨k, on, x, dx, p, st, kp, S, rfl, _⟩; rfl) (fun cdv A outer sh H E hr => (zb (z0 (i := 3) nd rfl (Or.inl rfl) (xu zcr (pv 2) xr (zN _)))
      (zb (xE PassesOwn.never rfl (Z5 (K := K) rfl (pv 1)) (yI (i := 4) nd rfl (Or.inl rfl))
      (zf (yG (ym xB (pv 4) zc (zN _)) (zf (yF (K := K) rfl (pv 0) (pv 3) rfl)) (zf (yG (ym xB (pv 4) zc (zN _)) (zf (yF (K := K) rfl (pv 0) (pv 3) rfl)) (zf (yG (ym xB (pv 4) zc (zN _)) (zf (yF (K := K) rfl (pv 0) (pv 3) rfl)) yx)))))))
      (zf (yG (ym (zdU (K := K) rfl) zc (pv 1) (by with_unfolding_all rfl)) (zf (yn (zn zgi (hr.mono (by decide)) rfl (QA.pa (qc (pv 0) qn))))) yx)))))
  · walk_at "ref"
  rintro _ O R ⟨k, on, x, dx, p, st, kp, S, rfl, hs, _, h⟩
  refine yp (fun ρ' O' => ρ' = [some (.own x), some (.d (.tuple [.int k])), some (.d (.bool on)), some (.d (.bool on)), none] ∧ O = O') (fun R1 hR1 => ?_) ?_
  · walk_at "wd"
    exact hR1 _ _ ⟨rfl, rfl⟩
  rintro _ _ ⟨rfl, rfl⟩
  refine yp (fun ρ' O' => ∃ v, ρ' = [some (.own x), some (.d (.tuple [.int k])), some (.d (.bool on)), some (.d (.bool on)), v] ∧ But O O' x p ∧ StAt O' C x dx p st kp (if k = 1 then { S with wrap := on } else if k = 2 then { S with putting := on } else if k = 3 then { S with home := on } else S)) (fun R1 hR1 => ?_) ?_
  · walk_at "wd"
    refine xj.by (fun i ρ O' => ∃ v, ρ = [some (.own x), some (.d (.tuple [.int k])), some (.d (.bool on)), some (.d (.bool on)), v] ∧ But O O' x p ∧ StAt O' C x dx p st kp (if i = 0 then S else if k = 1 then { S with wrap := on } else if k = 2 then { S with putting := on } else if k = 3 then { S with home := on } else S)) ⟨_, rfl, But.refl, hs⟩ (fun _ _ _ _ => trivial) ?_ ?_
    · rintro i wv _ O1 hw ⟨v, rfl, hb1, hs1⟩ R2 hR2
      cases i with
      | succ i => simp at hw
      | zero =>
        cases hw
        rw [if_pos rfl] at hs1
        have hx1 := hs1.x
        walk_at "wd"
        simp [hx1, yQ, and_assoc, zk, T.st.cl, T.st.n_picture, T.st.n_wide, T.st.n_high, T.st.n_row, T.st.n_column, T.st.n_late, T.st.n_ink, T.st.n_wrap, T.st.n_putting, T.st.n_home, T.st.n_top, T.st.n_bottom, T.st.n_left, T.st.n_right, T.st.n_stops, T.st.n_kept, T.st.n_last, zu, z7, z9, yz, zC, ya, yA, yb, zv, yc, yB, zD, yd, zK, zL, ye, yf, yC, zE, yg, yD, yh, zw, yi, yE, zF, yj, zM, yk]
        split
        · rename_i e; subst e; exact hR2 _ _ ⟨_, rfl, hb1.trans But.ux, by simpa using hs1.fld (S' := { S with wrap := on }) rfl rfl rfl⟩
        · split
          · rename_i e; subst e; exact hR2 _ _ ⟨_, rfl, hb1.trans But.ux, by simpa using hs1.fld (S' := { S with putting := on }) rfl rfl rfl⟩
          · split
            · rename_i e; subst e; exact hR2 _ _ ⟨_, rfl, hb1.trans But.ux, by simpa using hs1.fld (S' := { S with home := on }) rfl rfl rfl⟩
            · rename_i e1 e2 e3; exact hR2 _ _ ⟨_, rfl, hb1, by simpa [e1, e2, e3] using hs1⟩
    · rintro ρ O1 ⟨v, rfl, hb1, hs1⟩
      exact hR1 _ _ ⟨v, rfl, hb1, by simpa using hs1⟩
  rintro _ O1 ⟨v, rfl, hb1, hs1⟩
  walk_at "wd"
  simp [ui, xA, inV, eqV, scD, vOf]
  simp only [YX] at h
  by_cases e : k = 3
  · subst e
    simp at hs1 h ⊢
    exact ⟨x, dx, p, st, kp, _, rfl, hs1, trivial, fun O' h1 h2 => .inl (h O' h1 (hb1.trans h2))⟩
  · simp [e] at hs1 h ⊢
    exact .inl (h _ hs1 hb1)
theorem JA (F : Fun K "copied" "copied" kT f fd) (T : Txt K mg C) : FnOk P w K mg base CX0 1 f fd ["picture"] (zd K Z8) := by
  apply F.okV Jx (by rintro _ _ _ ⟨p, h, w, f, rfl, _⟩; rfl) (fun cdv A outer sh H E hr => (zf (yl (uW (u7 (N := ["row"]) (n := 1) (js := [])) rfl (vS (K := K) rfl (pv 0)) (fun _ _ _ _ => (yI (i := 0) (show List.Nodup (["row"] : List Str) by decide +kernel) rfl (Or.inl rfl))) (fun _ _ _ _ => vO) (fun _ _ _ _ => (xQ (UF (K := K) rfl) (by rfl) T.n_list rfl (QA.pa (qc (pv 0) qn))))))))
  · walk_at "ref"
  rintro _ O R ⟨p, h, w, g, rfl, hp, hh, q⟩
  walk_at "wd"
  have e1 := y8 hp
  rw [y7] at e1
  refine ⟨_, e1, by simp; omega, fun v => match v with | .row _ i => some (PyData.list ((List.range w).map fun j => yo (g i j))) | _ => none, ?_, .inl ?_⟩
  · intro a ha us hus
    obtain ⟨i, hi, rfl⟩ := List.mem_map.mp ha
    have hi : i < h := by simpa using hi
    match us, hus with
    | [u], _ =>
      have e2 := vT hp hi
      have e3 : yM ((List.range w).map fun j => W.d (yo (g i j))) = some ((List.range w).map fun j => yo (g i j)) := by
        have := xV ((List.range w).map fun j => yo (g i j))
        rw [List.map_map] at this
        exact this
      simp [ui, xA, e2, e3]
  · have e4 : List.filterMap (fun v => match v with | W.row _ i => some (PyData.list ((List.range w).map fun j => yo (g i j))) | _ => none) ((List.range h).map (W.row p)) = (genG h w g).map .list := by
      unfold genG
      rw [List.filterMap_map, List.map_map]
      exact congrFun (List.filterMap_eq_map (f := fun i => PyData.list ((List.range w).map fun j => yo (g i j)))) (List.range h)
    rw [e4]
    exact q
theorem Vd (F : Fun K "roll_rows" "roll_rows" qh f fd) (T : Txt K mg C) (zfX : Cal P w K mg base 1 "copied" [] (zd K Z8)) (zfS : Cal P w K mg base 1 "blank_of" [] (zd K (qJ C))) : FnOk P w K mg base CX0 2 f fd ["state", "first", "step"] (zd K (kb C)) := by
  have nd := jP.nd
  apply F.okV jP (by rintro _ _ _ ⟨a, s, _, _, x, dx, p, st, kp, S, rfl, _⟩; rfl) (fun cdv A outer sh H E hr => (zb (z0 (i := 3) nd rfl (Or.inl rfl) (zn zfX (hr.mono (by decide)) rfl (QA.pa (qc (zo (K := K) rfl (pv 0) rfl) qn))))
      (zf (xE PassesOwn.never rfl (vB rfl T.n_range (QA.pa (qc (pv 1) (qc (zi yK (zo (K := K) rfl (pv 0) rfl) zc) qn)))) (yI (i := 4) nd rfl (Or.inl rfl))
      (zb (z0 (i := 5) nd rfl (Or.inl rfl) (zi yK (pv 4) (pv 2)))
      (zb (z0 (i := 6) nd rfl (Or.inl rfl) (kz xw xw (pv 1) (pv 5) (zo (K := K) rfl (pv 0) rfl)))
      (zf (xE PassesOwn.never rfl (vB rfl T.n_range (QA.pa (qc (zo (K := K) rfl (pv 0) rfl) (qc (zi yK (zo (K := K) rfl (pv 0) rfl) zc) qn)))) (yI (i := 7) nd rfl (Or.inl rfl))
      (zf (vc (xz (xb (pv 6)) (yN (xa (K := K) rfl) (yN (xa (K := K) rfl) (pv 3) (pv 5) (fun _ _ => rfl)) (pv 7) (fun _ _ => rfl)) (zn zfS (hr.mono (by decide)) rfl (QA.pa (qc (pv 0) qn)))) (vC (yN (xa (K := K) rfl) (zo (K := K) rfl (pv 0) rfl) (pv 4) (fun _ _ => rfl)) (pv 7) xT)))))))))))
  · walk_at "ref"
  rintro _ O R ⟨a, s, s1, s2, x, dx, p, st, kp, S, rfl, hs, ⟨hB, a0, a1⟩, h⟩
  have hx := hs.x
  have := hB.h2
  have := hB.w2
  refine yp (fun ρ' O' => ρ' = [some (.own x), some (.d (.int a)), some (.d (.int s)), some (.d (.list ((genG S.h S.w S.pic).map .list))), none, none, none, none] ∧ O = O') (fun R1 hR1 => ?_) ?_
  · walk_at "wd"
    simp [hx, and_assoc, zk, T.st.cl, T.st.n_picture, T.st.n_wide, T.st.n_high, T.st.n_row, T.st.n_column, T.st.n_late, T.st.n_ink, T.st.n_wrap, T.st.n_putting, T.st.n_home, T.st.n_top, T.st.n_bottom, T.st.n_left, T.st.n_right, T.st.n_stops, T.st.n_kept, T.st.n_last, zu, z7, z9, yz, zC, ya, yA, yb, zv, yc, yB, zD, yd, zK, zL, ye, yf, yC, zE, yg, yD, yh, zw, yi, yE, zF, yj, zM, yk]
    exact ⟨p, S.h, S.w, S.pic, rfl, hs.p, hB.h2, hR1 _ _ ⟨rfl, rfl⟩⟩
  rintro _ _ ⟨rfl, rfl⟩
  have := hB.b1
  have := hB.l0
  have := hB.lr
  have := hB.rr
  walk_at "wd"
  simp [hx, and_assoc, zk, T.st.cl, T.st.n_picture, T.st.n_wide, T.st.n_high, T.st.n_row, T.st.n_column, T.st.n_late, T.st.n_ink, T.st.n_wrap, T.st.n_putting, T.st.n_home, T.st.n_top, T.st.n_bottom, T.st.n_left, T.st.n_right, T.st.n_stops, T.st.n_kept, T.st.n_last, zu, z7, z9, yz, zC, ya, yA, yb, zv, yc, yB, zD, yd, zK, zL, ye, yf, yC, zE, yg, yD, yh, zw, yi, yE, zF, yj, zM, yk]
  refine ⟨by omega, by omega, by omega, by omega, ?_⟩
  generalize hN : mvP S.pic S.ink a S.bottom S.left S.right s 0 = N
  refine xj.rng (fun i ρ O' => ∃ v4 v5 v6 v7, ρ = [some (.own x), some (.d (.int a)), some (.d (.int s)), some (.d (.list ((genG S.h S.w S.pic).map .list))), v4, v5, v6, v7] ∧ But O O' x p ∧ StAt O' C x dx p st kp { S with pic := goP N S.pic a S.left i 0 }) ⟨_, _, _, _, rfl, But.refl, ?_⟩ ?_ ?_
  · rw [qL (fun a' b' hab => by rw [← hN]; exact xD (by omega))]
    exact hs
  · rintro i _ O1 hi ⟨v4, v5, v6, v7, rfl, hb1, hs1⟩ R1 hR1
    have hx1 := hs1.x
    refine yp (fun ρ' O' => ρ' = [some (.own x), some (.d (.int a)), some (.d (.int s)), some (.d (.list ((genG S.h S.w S.pic).map .list))), some (.d (.int (a + i))), some (.d (.int (a + i + s))), v6, v7] ∧ O1 = O') (fun R2 hR2 => ?_) ?_
    · walk_at "wd"
      exact hR2 _ _ ⟨rfl, rfl⟩
    rintro _ _ ⟨rfl, rfl⟩
    refine yp (fun ρ' O' => ρ' = [some (.own x), some (.d (.int a)), some (.d (.int s)), some (.d (.list ((genG S.h S.w S.pic).map .list))), some (.d (.int (a + i))), some (.d (.int (a + i + s))), some (.d (.bool (decide (a ≤ a + i + s ∧ a + i + s ≤ S.bottom)))), v7] ∧ O1 = O') (fun R2 hR2 => ?_) ?_
    · walk_at "wd"
      simp [hx1, and_assoc, zk, T.st.cl, T.st.n_picture, T.st.n_wide, T.st.n_high, T.st.n_row, T.st.n_column, T.st.n_late, T.st.n_ink, T.st.n_wrap, T.st.n_putting, T.st.n_home, T.st.n_top, T.st.n_bottom, T.st.n_left, T.st.n_right, T.st.n_stops, T.st.n_kept, T.st.n_last, zu, z7, z9, yz, zC, ya, yA, yb, zv, yc, yB, zD, yd, zK, zL, ye, yf, yC, zE, yg, yD, yh, zw, yi, yE, zF, yj, zM, yk]
      split
      · rename_i e; exact hR2 _ _ ⟨by simp [e], rfl⟩
      · rename_i e; exact hR2 _ _ ⟨by simp [e], rfl⟩
    rintro _ _ ⟨rfl, rfl⟩
    generalize hin : decide (a ≤ a + i + s ∧ a + i + s ≤ S.bottom) = ins
    walk_at "wd"
    simp [hx1, and_assoc, zk, T.st.cl, T.st.n_picture, T.st.n_wide, T.st.n_high, T.st.n_row, T.st.n_column, T.st.n_late, T.st.n_ink, T.st.n_wrap, T.st.n_putting, T.st.n_home, T.st.n_top, T.st.n_bottom, T.st.n_left, T.st.n_right, T.st.n_stops, T.st.n_kept, T.st.n_last, zu, z7, z9, yz, zC, ya, yA, yb, zv, yc, yB, zD, yd, zK, zL, ye, yf, yC, zE, yg, yD, yh, zw, yi, yE, zF, yj, zM, yk]
    refine ⟨by omega, by omega, by omega, by omega, ?_⟩
    refine xj.rng (fun j ρ O' => ∃ v7, ρ = [some (.own x), some (.d (.int a)), some (.d (.int s)), some (.d (.list ((genG S.h S.w S.pic).map .list))), some (.d (.int (a + i))), some (.d (.int (a + i + s))), some (.d (.bool ins)), v7] ∧ But O O' x p ∧ StAt O' C x dx p st kp { S with pic := goP N S.pic a S.left i j }) ⟨_, rfl, hb1, hs1⟩ ?_ ?_
    · rintro j _ O2 hj ⟨v7, rfl, hb2, hs2⟩ R2 hR2
      have hx2 := hs2.x
      have e1 := y8 hs2.p
      rw [y7] at e1
      have e2 : atI ((List.range S.h).map (W.row p)) (a + (i : Int)) = some (W.row p (a + (i : Int)).toNat) := xf (by omega) (by omega)
      have e3 : ∀ c, N (a + (i : Int)).toNat (S.left + (j : Int)).toNat = c → u9 O2 (.row p (a + (i : Int)).toNat) (S.left + j) (.d (yo c)) = some (updO O2 p (.grid (genG S.h S.w (goP N S.pic a S.left i (j + 1))))) := by
        rintro _ rfl
        rw [vg hs2.p (by simp only; omega) (by omega) (by simp only; omega), uI (by omega) (by omega)]
      have nx : ∀ v, R2 [some (.own x), some (.d (.int a)), some (.d (.int s)), some (.d (.list ((genG S.h S.w S.pic).map .list))), some (.d (.int (a + i))), some (.d (.int (a + i + s))), some (.d (.bool ins)), v] (updO O2 p (.grid (genG S.h S.w (goP N S.pic a S.left i (j + 1))))) := fun v =>
        hR2 _ _ ⟨v, rfl, hb2.trans But.up, hs2.pic (f := goP N S.pic a S.left i (j + 1))⟩
      cases ins with
      | true =>
        have hin := of_decide_eq_true hin
        have eN : N (a + (i : Int)).toNat (S.left + (j : Int)).toNat = S.pic (a + i + s).toNat (S.left + (j : Int)).toNat := by
          rw [← hN]
          unfold mvP
          rw [if_pos (by omega), if_pos (by omega)]
          unfold atF
          congr 1 <;> first | omega | (congr 1; omega)
        walk_at "wd"
        simp [hx2, e1, e2, e3 _ eN, Jj, KO (show 0 ≤ a + i + s by omega) (show a + i + s < S.h by omega), XG (show 0 ≤ S.left + j by omega) (show S.left + j < S.w by omega), -List.map_map, and_assoc, zk, T.st.cl, T.st.n_picture, T.st.n_wide, T.st.n_high, T.st.n_row, T.st.n_column, T.st.n_late, T.st.n_ink, T.st.n_wrap, T.st.n_putting, T.st.n_home, T.st.n_top, T.st.n_bottom, T.st.n_left, T.st.n_right, T.st.n_stops, T.st.n_kept, T.st.n_last, zu, z7, z9, yz, zC, ya, yA, yb, zv, yc, yB, zD, yd, zK, zL, ye, yf, yC, zE, yg, yD, yh, zw, yi, yE, zF, yj, zM, yk]
        exact nx _
      | false =>
        have hin := of_decide_eq_false hin
        have eN : N (a + (i : Int)).toNat (S.left + (j : Int)).toNat = xo S.ink := by
          rw [← hN]
          unfold mvP
          rw [if_pos (by omega), if_neg (by omega)]
        walk_at "wd"
        refine ⟨x, dx, p, st, kp, _, rfl, hs2, ?_⟩
        simp [hx2, e1, e2, e3 _ eN, and_assoc, zk, T.st.cl, T.st.n_picture, T.st.n_wide, T.st.n_high, T.st.n_row, T.st.n_column, T.st.n_late, T.st.n_ink, T.st.n_wrap, T.st.n_putting, T.st.n_home, T.st.n_top, T.st.n_bottom, T.st.n_left, T.st.n_right, T.st.n_stops, T.st.n_kept, T.st.n_last, zu, z7, z9, yz, zC, ya, yA, yb, zv, yc, yB, zD, yd, zK, zL, ye, yf, yC, zE, yg, yD, yh, zw, yi, yE, zF, yj, zM, yk]
        exact nx _
    · rintro ρ O2 ⟨v7, rfl, hb2, hs2⟩
      refine hR1 _ _ ⟨_, _, _, _, rfl, hb2, ?_⟩
      rw [kd (fun a' b' h1 h2 => by rw [← hN]; exact xD (by omega)) (fun a' b' h1 h2 => by rw [← hN]; exact xD (by omega))] at hs2
      exact hs2
  · rintro ρ O1 ⟨v4, v5, v6, v7, rfl, hb1, hs1⟩
    rw [ke (fun a' b' h1 => by rw [← hN]; exact xD (by omega)), ← hN] at hs1
    exact .inl (h _ hs1 hb1)
end
section
variable {P : Program} {w : World} {K : PySem.W.Frag} {mg : Str → Option Value} {base : Heap} {f C : Addr} {fd : FuncData}
theorem Qy (F : Fun K "roll_up" "roll_up" jQ f fd) (T : Txt K mg C) (zgd : Cal P w K mg base 2 "roll_rows" [] (zd K (kb C))) : FnOk P w K mg base CX0 3 f fd ["state", "first", "times"] (zd K (kb C)) := by
  apply F.okV Qq (by rintro _ _ _ ⟨a, s, _, _, x, dx, p, st, kp, S, rfl, _⟩; rfl) (fun cdv A outer sh H E hr => (zf (yn (zn zgd (hr.mono (by decide)) rfl (QA.pa (qc (pv 0) (qc (pv 1) (qc (pv 2) qn))))))))
  · walk_at "ref"
  rintro _ O R ⟨a, s, s1, s2, x, dx, p, st, kp, S, rfl, hs, hp, h⟩
  walk_at "wd"
  exact ⟨a, s, s1, s2, x, dx, p, st, kp, S, rfl, hs, hp, fun O' h1 h2 => .inl (h O' h1 h2)⟩
theorem YH (F : Fun K "move_cells" "move_cells" uK f fd) (T : Txt K mg C) (zf1 : Cal P w K mg base 1 "edges" [] (zd K (jB C))) (zfS : Cal P w K mg base 1 "blank_of" [] (zd K (qJ C))) : FnOk P w K mg base CX0 2 f fd ["state", "step"] (zd K (KL C)) := by
  have nd := ja.nd
  apply F.okV ja (by rintro _ _ _ ⟨s, _, _, x, dx, p, st, kp, S, rfl, _⟩; rfl) (fun cdv A outer sh H E hr => (zb (z0 (i := 2) nd rfl (Or.inl rfl) (yN (uE (K := K) rfl) (zn zf1 (hr.mono (by decide)) rfl (QA.pa (qc (pv 0) qn))) zc (fun _ _ => rfl)))
      (zb (z0 (i := 3) nd rfl (Or.inl rfl) (yN (xa (K := K) rfl) (zo (K := K) rfl (pv 0) rfl) (zo (K := K) rfl (pv 0) rfl) (fun _ _ => rfl)))
      (zb (z0 (i := 4) nd rfl (Or.inl rfl) (xQ (UF (K := K) rfl) (by rfl) T.n_list rfl (QA.pa (qc (pv 3) qn))))
      (zb (xE PassesOwn.never rfl (vB rfl T.n_range (QA.pa (qc (zo (K := K) rfl (pv 0) rfl) (qc (zi yK (pv 2) zc) qn)))) (yI (i := 5) nd rfl (Or.inl rfl))
      (zb (z0 (i := 6) nd rfl (Or.inl rfl) (zi yK (pv 5) (pv 1)))
      (zb (z0 (i := 7) nd rfl (Or.inl rfl) (kz xw xw (zo (K := K) rfl (pv 0) rfl) (pv 6) (pv 2)))
      (zf (vc (xz (xb (pv 7)) (yN (xa (K := K) rfl) (pv 4) (pv 6) (fun _ _ => rfl)) (zn zfS (hr.mono (by decide)) rfl (QA.pa (qc (pv 0) qn)))) (vC (pv 3) (pv 5) xT))))))
      (zf (yF (K := K) rfl (pv 0) xr rfl)))))))
  · walk_at "ref"
  rintro _ O R ⟨s, s1, s2, x, dx, p, st, kp, S, rfl, hs, hB, h⟩
  have hx := hs.x
  have := hB.h2
  have := hB.w2
  have := hB.r0
  have := hB.r1
  have := hB.c0
  have eR1 := qM hB
  have e0 := y8 hs.p
  rw [y7] at e0
  have e0b : atI ((List.range S.h).map (W.row p)) S.row = some (W.row p S.row.toNat) := xf hB.r0 hB.r1
  have e0c := vT hs.p (i := S.row.toNat) (by omega)
  have e0d : yM ((List.range S.w).map fun j => W.d (yo (S.pic S.row.toNat j))) = some ((List.range S.w).map fun j => yo (S.pic S.row.toNat j)) := by
    have := xV ((List.range S.w).map fun j => yo (S.pic S.row.toNat j))
    rw [List.map_map] at this
    exact this
  refine kf (fun ρ' O' => ρ' = [some (.own x), some (.d (.int s)), some (.d (.int (eR S))), some (.row p S.row.toNat), some (.d (.list ((List.range S.w).map fun j => yo (S.pic S.row.toNat j)))), none, none, none] ∧ O = O') (fun R1 hR1 => ?_) ?_
  · walk_at "wd"
    refine ⟨x, dx, p, st, kp, S, rfl, hs, ?_⟩
    simp [hx, e0, e0b, e0c, e0d, ui, xA, zdl, and_assoc, zk, T.st.cl, T.st.n_picture, T.st.n_wide, T.st.n_high, T.st.n_row, T.st.n_column, T.st.n_late, T.st.n_ink, T.st.n_wrap, T.st.n_putting, T.st.n_home, T.st.n_top, T.st.n_bottom, T.st.n_left, T.st.n_right, T.st.n_stops, T.st.n_kept, T.st.n_last, zu, z7, z9, yz, zC, ya, yA, yb, zv, yc, yB, zD, yd, zK, zL, ye, yf, yC, zE, yg, yD, yh, zw, yi, yE, zF, yj, zM, yk]
    exact hR1 _ _ ⟨rfl, rfl⟩
  rintro _ _ ⟨rfl, rfl⟩
  generalize hN : mvP S.pic S.ink S.row S.row S.col (eR S) 0 s = N
  refine yp (fun ρ' O' => ∃ v5 v6 v7, ρ' = [some (.own x), some (.d (.int s)), some (.d (.int (eR S))), some (.row p S.row.toNat), some (.d (.list ((List.range S.w).map fun j => yo (S.pic S.row.toNat j)))), v5, v6, v7] ∧ But O O' x p ∧ StAt O' C x dx p st kp { S with pic := N }) (fun R1 hR1 => ?_) ?_
  · walk_at "wd"
    simp [hx, and_assoc, zk, T.st.cl, T.st.n_picture, T.st.n_wide, T.st.n_high, T.st.n_row, T.st.n_column, T.st.n_late, T.st.n_ink, T.st.n_wrap, T.st.n_putting, T.st.n_home, T.st.n_top, T.st.n_bottom, T.st.n_left, T.st.n_right, T.st.n_stops, T.st.n_kept, T.st.n_last, zu, z7, z9, yz, zC, ya, yA, yb, zv, yc, yB, zD, yd, zK, zL, ye, yf, yC, zE, yg, yD, yh, zw, yi, yE, zF, yj, zM, yk]
    refine ⟨by omega, by omega, by omega, by omega, ?_⟩
    refine xj.rng (fun j ρ O' => ∃ v5 v6 v7, ρ = [some (.own x), some (.d (.int s)), some (.d (.int (eR S))), some (.row p S.row.toNat), some (.d (.list ((List.range S.w).map fun j => yo (S.pic S.row.toNat j)))), v5, v6, v7] ∧ But O O' x p ∧ StAt O' C x dx p st kp { S with pic := goP N S.pic S.row S.col 0 j }) ⟨_, _, _, rfl, But.refl, ?_⟩ ?_ ?_
    · rw [qL (fun a' b' hab => by rw [← hN]; exact xD (by omega))]
      exact hs
    · rintro j _ O1 hj ⟨v5, v6, v7, rfl, hb1, hs1⟩ R2 hR2
      have hx1 := hs1.x
      refine yp (fun ρ' O' => ρ' = [some (.own x), some (.d (.int s)), some (.d (.int (eR S))), some (.row p S.row.toNat), some (.d (.list ((List.range S.w).map fun j => yo (S.pic S.row.toNat j)))), some (.d (.int (S.col + j))), some (.d (.int (S.col + j + s))), v7] ∧ O1 = O') (fun R3 hR3 => ?_) ?_
      · walk_at "wd"
        exact hR3 _ _ ⟨rfl, rfl⟩
      rintro _ _ ⟨rfl, rfl⟩
      refine yp (fun ρ' O' => ρ' = [some (.own x), some (.d (.int s)), some (.d (.int (eR S))), some (.row p S.row.toNat), some (.d (.list ((List.range S.w).map fun j => yo (S.pic S.row.toNat j)))), some (.d (.int (S.col + j))), some (.d (.int (S.col + j + s))), some (.d (.bool (decide (S.col ≤ S.col + j + s ∧ S.col + j + s ≤ eR S))))] ∧ O1 = O') (fun R3 hR3 => ?_) ?_
      · walk_at "wd"
        simp [hx1, and_assoc, zk, T.st.cl, T.st.n_picture, T.st.n_wide, T.st.n_high, T.st.n_row, T.st.n_column, T.st.n_late, T.st.n_ink, T.st.n_wrap, T.st.n_putting, T.st.n_home, T.st.n_top, T.st.n_bottom, T.st.n_left, T.st.n_right, T.st.n_stops, T.st.n_kept, T.st.n_last, zu, z7, z9, yz, zC, ya, yA, yb, zv, yc, yB, zD, yd, zK, zL, ye, yf, yC, zE, yg, yD, yh, zw, yi, yE, zF, yj, zM, yk]
        split
        · rename_i e; exact hR3 _ _ ⟨by simp [e], rfl⟩
        · rename_i e; exact hR3 _ _ ⟨by simp [e], rfl⟩
      rintro _ _ ⟨rfl, rfl⟩
      generalize hin : decide (S.col ≤ S.col + j + s ∧ S.col + j + s ≤ eR S) = ins
      have e3 : ∀ c, N S.row.toNat (S.col + (j : Int)).toNat = c → u9 O1 (.row p S.row.toNat) (S.col + j) (.d (yo c)) = some (updO O1 p (.grid (genG S.h S.w (goP N S.pic S.row S.col 0 (j + 1))))) := by
        rintro _ rfl
        rw [vg hs1.p (by simp only; omega) (by omega) (by simp only; omega), uI (by omega) (by omega)]
      have nx : ∀ v5 v6 v7, R2 [some (.own x), some (.d (.int s)), some (.d (.int (eR S))), some (.row p S.row.toNat), some (.d (.list ((List.range S.w).map fun j => yo (S.pic S.row.toNat j)))), v5, v6, v7] (updO O1 p (.grid (genG S.h S.w (goP N S.pic S.row S.col 0 (j + 1))))) := fun v5 v6 v7 =>
        hR2 _ _ ⟨v5, v6, v7, rfl, hb1.trans But.up, hs1.pic (f := goP N S.pic S.row S.col 0 (j + 1))⟩
      cases ins with
      | true =>
        have hin := of_decide_eq_true hin
        have eN : N S.row.toNat (S.col + (j : Int)).toNat = S.pic S.row.toNat (S.col + j + s).toNat := by
          rw [← hN]
          unfold mvP
          rw [if_pos (by omega), if_pos (by omega)]
          unfold atF
          congr 1 <;> first | omega | (congr 1; omega)
        walk_at "wd"
        simp [hx1, e3 _ eN, Jj, XG (show 0 ≤ S.col + j + s by omega) (show S.col + j + s < S.w by omega), -List.map_map, and_assoc, zk, T.st.cl, T.st.n_picture, T.st.n_wide, T.st.n_high, T.st.n_row, T.st.n_column, T.st.n_late, T.st.n_ink, T.st.n_wrap, T.st.n_putting, T.st.n_home, T.st.n_top, T.st.n_bottom, T.st.n_left, T.st.n_right, T.st.n_stops, T.st.n_kept, T.st.n_last, zu, z7, z9, yz, zC, ya, yA, yb, zv, yc, yB, zD, yd, zK, zL, ye, yf, yC, zE, yg, yD, yh, zw, yi, yE, zF, yj, zM, yk]
        exact nx _ _ _
      | false =>
        have hin := of_decide_eq_false hin
        have eN : N S.row.toNat (S.col + (j : Int)).toNat = xo S.ink := by
          rw [← hN]
          unfold mvP
          rw [if_pos (by omega), if_neg (by omega)]
        walk_at "wd"
        refine ⟨x, dx, p, st, kp, _, rfl, hs1, ?_⟩
        simp [hx1, e3 _ eN, and_assoc, zk, T.st.cl, T.st.n_picture, T.st.n_wide, T.st.n_high, T.st.n_row, T.st.n_column, T.st.n_late, T.st.n_ink, T.st.n_wrap, T.st.n_putting, T.st.n_home, T.st.n_top, T.st.n_bottom, T.st.n_left, T.st.n_right, T.st.n_stops, T.st.n_kept, T.st.n_last, zu, z7, z9, yz, zC, ya, yA, yb, zv, yc, yB, zD, yd, zK, zL, ye, yf, yC, zE, yg, yD, yh, zw, yi, yE, zF, yj, zM, yk]
        exact nx _ _ _
    · rintro ρ O2 ⟨v5, v6, v7, rfl, hb2, hs2⟩
      rw [kd (fun a' b' h1 h2 => by rw [← hN]; exact xD (by omega)) (fun a' b' h1 h2 => by rw [← hN]; exact xD (by omega)), ke (fun a' b' h1 => by rw [← hN]; exact xD (by omega))] at hs2
      exact hR1 _ _ ⟨_, _, _, rfl, hb2, hs2⟩
  rintro _ O1 ⟨v5, v6, v7, rfl, hb1, hs1⟩
  have hx1 := hs1.x
  walk_at "wd"
  simp [hx1, yQ, and_assoc, zk, T.st.cl, T.st.n_picture, T.st.n_wide, T.st.n_high, T.st.n_row, T.st.n_column, T.st.n_late, T.st.n_ink, T.st.n_wrap, T.st.n_putting, T.st.n_home, T.st.n_top, T.st.n_bottom, T.st.n_left, T.st.n_right, T.st.n_stops, T.st.n_kept, T.st.n_last, zu, z7, z9, yz, zC, ya, yA, yb, zv, yc, yB, zD, yd, zK, zL, ye, yf, yC, zE, yg, yD, yh, zw, yi, yE, zF, yj, zM, yk]
  refine .inl (h _ ?_ (hb1.trans But.ux))
  have := hs1.fld (S' := { S with pic := N, late := false }) rfl rfl rfl
  rw [← hN] at this ⊢
  exact this
theorem Ve (F : Fun K "put_cells" "put_cells" qi f fd) (T : Txt K mg C) (zfQ : Cal P w K mg base 1 "at_least_one" [] (zd K kK)) (zga : Cal P w K mg base 2 "move_cells" [] (zd K (KL C))) : FnOk P w K mg base CX0 3 f fd ["state", "many"] (zd K (U7 C)) := by
  apply F.okV X3 (by rintro _ _ _ ⟨n, _, x, dx, p, st, kp, S, rfl, _⟩; rfl) (fun cdv A outer sh H E hr => (zf (yn (zn zga (hr.mono (by decide)) rfl (QA.pa (qc (pv 0) (qc (Ul QJ (zn zfQ (hr.mono (by decide)) rfl (QA.pa (qc (pv 1) qn)))) qn)))))))
  · walk_at "ref"
  rintro _ O R ⟨n, hn, x, dx, p, st, kp, S, rfl, hs, hB, h⟩
  have o1 := @Z6 n
  have o2 := Z7 hn
  walk_at "wd"
  exact ⟨hn, _, by omega, by omega, x, dx, p, st, kp, S, rfl, hs, hB, fun O' h1 h2 => .inl (h O' h1 h2)⟩
theorem VF (F : Fun K "line_end" "line_end" qX f fd) (T : Txt K mg C) (zgj : Cal P w K mg base 2 "to_left_edge" [] (zd K (U8 C))) (zge : Cal P w K mg base 3 "roll_up" [] (zd K (kb C))) : FnOk P w K mg base CX0 4 f fd ["state"] (zd K (XD C)) := by
  apply F.okV Vy (by rintro _ _ _ ⟨x, dx, p, st, kp, S, rfl, _⟩; rfl) (fun cdv A outer sh H E hr => (zb (yn (zn zgj (hr.mono (by decide)) rfl (QA.pa (qc (pv 0) qn))))
      (zf (yG (ym xB (zo (K := K) rfl (pv 0) rfl) (zo (K := K) rfl (pv 0) rfl) (zN _)) (zf (yn (zn zge (hr.mono (by decide)) rfl (QA.pa (qc (pv 0) (qc (zo (K := K) rfl (pv 0) rfl) (qc zc qn))))))) (zf (yG (ym k7 (zo (K := K) rfl (pv 0) rfl) (zi yX (zo (K := K) rfl (pv 0) rfl) zc) (zN _)) (zf (yF (K := K) rfl (pv 0) (zi yK (zo (K := K) rfl (pv 0) rfl) zc) rfl)) yx))))))
  · walk_at "ref"
  rintro _ O R ⟨x, dx, p, st, kp, S, rfl, hs, hB, h⟩
  have hB1 := hB.left
  have := hB1.tb
  walk_at "wd"
  refine ⟨x, dx, p, st, kp, S, rfl, hs, trivial, fun O1 hs1 hb1 => ?_⟩
  have hx1 := hs1.x
  simp only [lineE] at h
  simp [hx1, yQ, and_assoc, zk, T.st.cl, T.st.n_picture, T.st.n_wide, T.st.n_high, T.st.n_row, T.st.n_column, T.st.n_late, T.st.n_ink, T.st.n_wrap, T.st.n_putting, T.st.n_home, T.st.n_top, T.st.n_bottom, T.st.n_left, T.st.n_right, T.st.n_stops, T.st.n_kept, T.st.n_last, zu, z7, z9, yz, zC, ya, yA, yb, zv, yc, yB, zD, yd, zK, zL, ye, yf, yC, zE, yg, yD, yh, zw, yi, yE, zF, yj, zM, yk]
  split
  · rename_i e
    rw [if_pos e] at h
    exact ⟨_, 1, by decide, by decide, x, dx, p, st, kp, _, rfl, hs1, ⟨hB1, hB1.t0, by omega⟩, fun O' h1 h2 => .inl (h O' h1 (hb1.trans h2))⟩
  · rename_i e
    rw [if_neg e] at h
    split
    · rename_i e2
      rw [if_pos e2] at h
      exact .inl (h _ (hs1.fld rfl rfl rfl) (hb1.trans But.ux))
    · rename_i e2
      rw [if_neg e2] at h
      exact .inl (h _ hs1 hb1)
theorem VG (F : Fun K "put_sign" "put_sign" qY f fd) (T : Txt K mg C) (zf8 : Cal P w K mg base 4 "line_end" [] (zd K (XD C))) (zgb : Cal P w K mg base 3 "put_cells" [] (zd K (U7 C))) (zf1 : Cal P w K mg base 1 "edges" [] (zd K (jB C))) : FnOk P w K mg base CX0 5 f fd ["state", "sign"] (zd K (vW C)) := by
  apply F.okV Vz (by rintro _ _ _ ⟨c, x, dx, p, st, kp, S, rfl, _⟩; rfl) (fun cdv A outer sh H E hr => (zb (yG (PW.pt (jj (xb (zo (K := K) rfl (pv 0) rfl)) (qp (xb (zo (K := K) rfl (pv 0) rfl))))) (zf (yn (zn zf8 (hr.mono (by decide)) rfl (QA.pa (qc (pv 0) qn))))) yx)
      (zb (yF (K := K) rfl (pv 0) xr rfl)
      (zb (yG (xb (zo (K := K) rfl (pv 0) rfl)) (zf (yn (zn zgb (hr.mono (by decide)) rfl (QA.pa (qc (pv 0) (qc zc qn)))))) yx)
      (zb (vc (yO (qc (pv 1) (qc (zo (K := K) rfl (pv 0) rfl) qn))) (vC (yN (xa (K := K) rfl) (zo (K := K) rfl (pv 0) rfl) (zo (K := K) rfl (pv 0) rfl) (fun _ _ => rfl)) (zo (K := K) rfl (pv 0) rfl) xT))
      (zb (yF (K := K) rfl (pv 0) (pv 1) rfl)
      (zf (yG (ym k7 (zo (K := K) rfl (pv 0) rfl) (yN (uE (K := K) rfl) (zn zf1 (hr.mono (by decide)) rfl (QA.pa (qc (pv 0) qn))) zc (fun _ _ => rfl)) (zN _)) (zf (yF (K := K) rfl (pv 0) (zi yK (zo (K := K) rfl (pv 0) rfl) zc) rfl)) (zf (yF (K := K) rfl (pv 0) (zo (K := K) rfl (pv 0) rfl) rfl))))))))))
  · walk_at "ref"
  rintro _ O R ⟨c, x, dx, p, st, kp, S, rfl, hs, hB, h⟩
  have hx := hs.x
  rw [vz] at h
  refine yp (fun ρ' O' => ρ' = [some (.own x), some (.d (.str c))] ∧ But O O' x p ∧ StAt O' C x dx p st kp (pA S)) (fun R1 hR1 => ?_) ?_
  · walk_at "wd"
    simp [hx, yQ, and_assoc, zk, T.st.cl, T.st.n_picture, T.st.n_wide, T.st.n_high, T.st.n_row, T.st.n_column, T.st.n_late, T.st.n_ink, T.st.n_wrap, T.st.n_putting, T.st.n_home, T.st.n_top, T.st.n_bottom, T.st.n_left, T.st.n_right, T.st.n_stops, T.st.n_kept, T.st.n_last, zu, z7, z9, yz, zC, ya, yA, yb, zv, yc, yB, zD, yd, zK, zL, ye, yf, yC, zE, yg, yD, yh, zw, yi, yE, zF, yj, zM, yk]
    by_cases e : S.late = true ∧ S.wrap = true
    · rw [pA, if_pos e] at hR1
      simp [e.1, e.2]
      exact ⟨x, dx, p, st, kp, S, rfl, hs, hB, fun O' h1 h2 => hR1 _ _ ⟨rfl, h2, h1⟩⟩
    · rw [pA, if_neg e] at hR1
      have := hR1 _ _ ⟨rfl, But.refl, hs⟩
      cases hl : S.late <;> cases hw : S.wrap <;> simp [hl, hw] at e ⊢ <;> exact this
  rintro _ O1 ⟨rfl, hb1, hs1⟩
  have hB1 : Bds (pA S) := hB.pA
  refine yp (fun ρ' O' => ρ' = [some (.own x), some (.d (.str c))] ∧ But O O' x p ∧ StAt O' C x dx p st kp (pB (pA S))) (fun R1 hR1 => ?_) ?_
  · have hx1 := hs1.x
    walk_at "wd"
    simp [hx1, yQ, and_assoc, zk, T.st.cl, T.st.n_picture, T.st.n_wide, T.st.n_high, T.st.n_row, T.st.n_column, T.st.n_late, T.st.n_ink, T.st.n_wrap, T.st.n_putting, T.st.n_home, T.st.n_top, T.st.n_bottom, T.st.n_left, T.st.n_right, T.st.n_stops, T.st.n_kept, T.st.n_last, zu, z7, z9, yz, zC, ya, yA, yb, zv, yc, yB, zD, yd, zK, zL, ye, yf, yC, zE, yg, yD, yh, zw, yi, yE, zF, yj, zM, yk]
    exact hR1 _ _ ⟨rfl, hb1.trans But.ux, hs1.fld (S' := pB (pA S)) rfl rfl rfl⟩
  rintro _ O2 ⟨rfl, hb2, hs2⟩
  have hB2 := hB1.pB
  generalize pB (pA S) = S2 at *
  refine yp (fun ρ' O' => ρ' = [some (.own x), some (.d (.str c))] ∧ But O O' x p ∧ StAt O' C x dx p st kp (pC S2)) (fun R1 hR1 => ?_) ?_
  · have hx2 := hs2.x
    walk_at "wd"
    simp [hx2, yQ, and_assoc, zk, T.st.cl, T.st.n_picture, T.st.n_wide, T.st.n_high, T.st.n_row, T.st.n_column, T.st.n_late, T.st.n_ink, T.st.n_wrap, T.st.n_putting, T.st.n_home, T.st.n_top, T.st.n_bottom, T.st.n_left, T.st.n_right, T.st.n_stops, T.st.n_kept, T.st.n_last, zu, z7, z9, yz, zC, ya, yA, yb, zv, yc, yB, zD, yd, zK, zL, ye, yf, yC, zE, yg, yD, yh, zw, yi, yE, zF, yj, zM, yk]
    cases hl : S2.putting
    · rw [pC, hl] at hR1
      simp
      exact hR1 _ _ ⟨rfl, hb2, hs2⟩
    · rw [pC, hl, if_pos rfl] at hR1
      simp
      exact ⟨.int 1, ⟨by decide, by decide⟩, x, dx, p, st, kp, S2, rfl, hs2, hB2, fun O' h1 h2 => hR1 _ _ ⟨rfl, hb2.trans h2, h1⟩⟩
  rintro _ O3 ⟨rfl, hb3, hs3⟩
  have hB3 := hB2.pC
  generalize pC S2 = S3 at *
  refine yp (fun ρ' O' => ρ' = [some (.own x), some (.d (.str c))] ∧ But O O' x p ∧ StAt O' C x dx p st kp (pD c S3)) (fun R1 hR1 => ?_) ?_
  · have hx3 := hs3.x
    have := hB3.r0
    have := hB3.r1
    have e1 := y8 hs3.p
    rw [y7] at e1
    have e2 : atI ((List.range S3.h).map (W.row p)) S3.row = some (W.row p S3.row.toNat) := xf hB3.r0 hB3.r1
    have e3 : u9 O3 (.row p S3.row.toNat) S3.col (.d (.tuple [.str c, .int S3.ink])) = _ := vg (c := (c, S3.ink)) hs3.p (by omega) hB3.c0 hB3.c1
    walk_at "wd"
    simp [hx3, e1, e2, e3, yM, and_assoc, zk, T.st.cl, T.st.n_picture, T.st.n_wide, T.st.n_high, T.st.n_row, T.st.n_column, T.st.n_late, T.st.n_ink, T.st.n_wrap, T.st.n_putting, T.st.n_home, T.st.n_top, T.st.n_bottom, T.st.n_left, T.st.n_right, T.st.n_stops, T.st.n_kept, T.st.n_last, zu, z7, z9, yz, zC, ya, yA, yb, zv, yc, yB, zD, yd, zK, zL, ye, yf, yC, zE, yg, yD, yh, zw, yi, yE, zF, yj, zM, yk]
    exact hR1 _ _ ⟨rfl, hb3.trans But.up, hs3.pic⟩
  rintro _ O4 ⟨rfl, hb4, hs4⟩
  have hB4 : Bds (pD c S3) := hB3.pD
  generalize pD c S3 = S4 at *
  have hx4 := hs4.x
  refine yp (fun ρ' O' => ρ' = [some (.own x), some (.d (.str c))] ∧ But O O' x p ∧ StAt O' C x dx p st kp (pE c S4)) (fun R1 hR1 => ?_) ?_
  · walk_at "wd"
    simp [hx4, yQ, and_assoc, zk, T.st.cl, T.st.n_picture, T.st.n_wide, T.st.n_high, T.st.n_row, T.st.n_column, T.st.n_late, T.st.n_ink, T.st.n_wrap, T.st.n_putting, T.st.n_home, T.st.n_top, T.st.n_bottom, T.st.n_left, T.st.n_right, T.st.n_stops, T.st.n_kept, T.st.n_last, zu, z7, z9, yz, zC, ya, yA, yb, zv, yc, yB, zD, yd, zK, zL, ye, yf, yC, zE, yg, yD, yh, zw, yi, yE, zF, yj, zM, yk]
    exact hR1 _ _ ⟨rfl, hb4.trans But.ux, hs4.fld (S' := pE c S4) rfl rfl rfl⟩
  rintro _ O5 ⟨rfl, hb5, hs5⟩
  generalize pE c S4 = S5 at *
  have hx5 := hs5.x
  simp only [pF] at h
  walk_at "wd"
  simp [hx5, yQ, and_assoc, zk, T.st.cl, T.st.n_picture, T.st.n_wide, T.st.n_high, T.st.n_row, T.st.n_column, T.st.n_late, T.st.n_ink, T.st.n_wrap, T.st.n_putting, T.st.n_home, T.st.n_top, T.st.n_bottom, T.st.n_left, T.st.n_right, T.st.n_stops, T.st.n_kept, T.st.n_last, zu, z7, z9, yz, zC, ya, yA, yb, zv, yc, yB, zD, yd, zK, zL, ye, yf, yC, zE, yg, yD, yh, zw, yi, yE, zF, yj, zM, yk]
  refine ⟨x, dx, p, st, kp, S5, rfl, hs5, ?_⟩
  simp [hx5, zdl, yQ, and_assoc, zk, T.st.cl, T.st.n_picture, T.st.n_wide, T.st.n_high, T.st.n_row, T.st.n_column, T.st.n_late, T.st.n_ink, T.st.n_wrap, T.st.n_putting, T.st.n_home, T.st.n_top, T.st.n_bottom, T.st.n_left, T.st.n_right, T.st.n_stops, T.st.n_kept, T.st.n_last, zu, z7, z9, yz, zC, ya, yA, yb, zv, yc, yB, zD, yd, zK, zL, ye, yf, yC, zE, yg, yD, yh, zw, yi, yE, zF, yj, zM, yk]
  split
  · rename_i e
    rw [if_pos e] at h
    exact .inl (h _ (hs5.fld rfl rfl rfl) (hb5.trans But.ux))
  · rename_i e
    rw [if_neg e] at h
    exact .inl (h _ (hs5.fld rfl rfl rfl) (hb5.trans But.ux))
end
section
variable {P : Program} {w : World} {K : PySem.W.Frag} {mg : Str → Option Value} {base : Heap} {f C : Addr} {fd : FuncData}
theorem jV {d : Value} (F : FunD K "blank_row" "blank_row" vv [d] f fd) (T : Txt K mg C) : FnOk P w K mg base CX0 1 f fd ["wide", "ink"] (zd K uY) := by
  apply F.okV X1 (by rintro _ _ _ ⟨a, i, rfl, _⟩; rfl) (fun cdv A outer sh H E hr => (zf (yl (zc7 (u7 (N := ["column", "ink"]) (n := 1) (js := [1])) rfl (xH rfl T.n_range (QA.pa (qc (pv 0) qn))) (fun _ _ _ _ => (yI (i := 0) (show List.Nodup (["column", "ink"] : List Str) by decide +kernel) rfl (Or.inl rfl))) (fun _ _ _ _ => vO) (fun _ _ _ _ => (yO (qc ze (qc (pv 1) qn))))))))
  · walk_at "ref"
  rintro _ O R ⟨a, i, rfl, ha, h⟩
  walk_at "wd"
  refine ⟨by omega, by omega, fun _ => some (yo (xo i)), ?_, fun p hp => .inl ?_⟩
  · intro k hk us hus
    match us, hus with
    | [u], _ => simp [yM, yo, xo]
  · have := h p hp
    simpa [List.filterMap_map, Function.comp_def] using this
theorem uV {d : Value} (F : FunD K "blank_picture" "blank_picture" xJ [d] f fd) (T : Txt K mg C) (zf6 : Cal P w K mg base 2 "is_size" [] (zd K U3)) (zfV : Cal P w K mg base 1 "blank_row" [] (zd K uY)) :
    FnOk P w K mg base CX0 3 f fd ["wide", "high", "ink"] (zd K uZ) := by
  apply F.okV kS (by rintro _ _ _ ⟨a, b, i, rfl, _⟩; rfl) (fun cdv A outer sh H E hr => (zb (yG (kX (xb (zn zf6 (hr.mono (by decide)) rfl (QA.pa (qc (pv 0) (qc (pv 1) qn)))))) (zf JF) yx)
      (zf (yl (zc8 (u7 (N := ["row", "wide", "ink"]) (n := 1) (js := [0, 2])) rfl (xH rfl T.n_range (QA.pa (qc (pv 1) qn))) (fun _ _ _ _ => (yI (i := 0) (show List.Nodup (["row", "wide", "ink"] : List Str) by decide +kernel) rfl (Or.inl rfl))) (fun _ _ _ _ => vO) (fun _ _ _ _ => (zn zfV (hr.mono (by decide)) rfl (QA.pa (qc (pv 1) (qc (pv 2) qn))))))))))
  · walk_at "ref"
  rintro _ O R ⟨a, b, i, rfl, a1, a2, b1, b2, h⟩
  walk_at "wd"
  refine ⟨a, b, rfl, a1, a2, b1, b2, ?_⟩
  simp
  refine ⟨by omega, by omega, fun _ => (List.range a).map fun _ => yo (xo i), ?_, fun p hp => .inl ?_⟩
  · intro k hk us hus
    match us, hus with
    | [u], _ =>
      simp
      exact ⟨a, i, rfl, a2, fun p hp => ⟨p, hp, rfl, by simp⟩⟩
  · have := h p hp
    simpa [genG, Function.comp_def] using this
theorem Yh (F : Fun K "first_stops" "first_stops" uj f fd) (T : Txt K mg C) : FnOk P w K mg base CX0 1 f fd ["wide"] (zd K XE) := by
  apply F.okV Yb (by rintro _ _ _ ⟨a, rfl, _⟩; rfl) (fun cdv A outer sh H E hr => (zf (yl (xQ (zbO (K := K) rfl rfl) (by rfl) T.n_dict rfl (QA.pa (qc (uW (u7 (N := ["column"]) (n := 1) (js := [])) rfl (QY rfl T.n_range (QA.pa (qc (Zj rfl T.g_TAB_STEP) (qc (pv 0) (qc (Zj rfl T.g_TAB_STEP) qn))))) (fun _ _ _ _ => (yI (i := 0) (show List.Nodup (["column"] : List Str) by decide +kernel) rfl (Or.inl rfl))) (fun _ _ _ _ => vO) (fun _ _ _ _ => (yO (qc (pv 0) (qc xr qn))))) qn))))))
  · walk_at "ref"
  rintro _ O R ⟨a, rfl, a1, a2, h⟩
  walk_at "wd"
  refine ⟨_, r3w a1 a2, by omega, fun v => match v with | .d (.int k) => some (.tuple [.int k, .bool true]) | _ => none, ?_, ?_⟩
  · intro k hk us hus
    match us, hus with
    | [u], _ => simp [yM]
  · have e1 : ∀ (g : Nat → Int) (l : List Nat), List.filterMap ((fun v => match v with | W.d (PyData.int k) => some (PyData.tuple [PyData.int k, PyData.bool true]) | _ => none) ∘ fun k => W.d (PyData.int (g k))) l = l.map fun k => PyData.tuple [.int (g k), .bool true] := fun g l => congrFun (List.filterMap_eq_map (f := fun k => PyData.tuple [.int (g k), .bool true])) l
    have e2 : ∀ (g : Nat → Int) (l : List Nat), vF (l.map fun k => PyData.tuple [.int (g k), .bool true]) = some (l.map fun k => (Sum.inl (g k), PyData.bool true)) := fun g l => by
      induction l with
      | nil => rfl
      | cons k l ih => simp [vF, ih]
    rw [e1 (fun k => 4 + (k : Int) * 4)]
    refine ⟨_, rfl, _, e2 _ _, by simp; omega, fun p hp => .inl ?_⟩
    have := h p hp
    rw [List.map_map, Zw (by have := KP a2; simpa [uH, Function.comp_def] using this)]
    simpa [uH, Function.comp_def] using this
theorem Yi (F : Fun K "begin" "State.begin" xq f fd) (T : Txt K mg C) (zf2 : Cal P w K mg base 1 "first_stops" [] (zd K XE)) : FnOk P w K mg base CX0 2 f fd ["self"] (zd K (XF C)) := by
  apply F.okV Ya (by rintro _ _ _ ⟨x, dx, p, w, h, rfl, _⟩; rfl) (fun cdv A outer sh H E hr => (zb (yF (K := K) rfl (pv 0) zc rfl)
      (zb (yF (K := K) rfl (pv 0) zc rfl)
      (zb (yF (K := K) rfl (pv 0) xr rfl)
      (zb (yF (K := K) rfl (pv 0) zc rfl)
      (zb (yF (K := K) rfl (pv 0) xr rfl)
      (zb (yF (K := K) rfl (pv 0) xr rfl)
      (zb (yF (K := K) rfl (pv 0) xr rfl)
      (zb (yF (K := K) rfl (pv 0) zc rfl)
      (zb (yF (K := K) rfl (pv 0) (zi yX (zo (K := K) rfl (pv 0) rfl) zc) rfl)
      (zb (yF (K := K) rfl (pv 0) zc rfl)
      (zb (yF (K := K) rfl (pv 0) (zi yX (zo (K := K) rfl (pv 0) rfl) zc) rfl)
      (zb (yF (K := K) rfl (pv 0) (zn zf2 (hr.mono (by decide)) rfl (QA.pa (qc (zo (K := K) rfl (pv 0) rfl) qn))) rfl)
      (zb (yF (K := K) rfl (pv 0) (V3 qn) rfl)
      (zf (yF (K := K) rfl (pv 0) xt rfl))))))))))))))))
  · walk_at "ref"
  rintro _ O R ⟨x, dx, p, a, b, rfl, hx, a1, a2, h⟩
  walk_at "wd"
  simp [hx, zeq, zer, zes, zet, zeu, zev, zew, zdZ, zd0, zd1, zd2, Qb, Qc, Qd, and_assoc, zk, T.st.cl, T.st.n_picture, T.st.n_wide, T.st.n_high, T.st.n_row, T.st.n_column, T.st.n_late, T.st.n_ink, T.st.n_wrap, T.st.n_putting, T.st.n_home, T.st.n_top, T.st.n_bottom, T.st.n_left, T.st.n_right, T.st.n_stops, T.st.n_kept, T.st.n_last, zu, z7, z9, yz, zC, ya, yA, yb, zv, yc, yB, zD, yd, zK, zL, ye, yf, yC, zE, yg, yD, yh, zw, yi, yE, zF, yj, zM, yk]
  refine ⟨a, rfl, a1, a2, fun st hst => ?_⟩
  have nsx : st ≠ x := fun e => by rw [e, zl] at hst; cases hst
  rw [zg nsx] at hst
  simp [zg (Ne.symm nsx), zl, zd3, zaK, and_assoc, zk, T.st.cl, T.st.n_picture, T.st.n_wide, T.st.n_high, T.st.n_row, T.st.n_column, T.st.n_late, T.st.n_ink, T.st.n_wrap, T.st.n_putting, T.st.n_home, T.st.n_top, T.st.n_bottom, T.st.n_left, T.st.n_right, T.st.n_stops, T.st.n_kept, T.st.n_last, zu, z7, z9, yz, zC, ya, yA, yb, zv, yc, yB, zD, yd, zK, zL, ye, yf, yC, zE, yg, yD, yh, zw, yi, yE, zF, yj, zM, yk]
  intro kp hkp
  have nkx : kp ≠ x := fun e => by rw [e, zl] at hkp; cases hkp
  rw [zg nkx] at hkp
  have nks : kp ≠ st := fun e => by rw [e, zl] at hkp; cases hkp
  rw [zg nks, zg nkx] at hkp
  simp [zg (Ne.symm nkx), zl, xR, zaK, zd4, and_assoc, zk, T.st.cl, T.st.n_picture, T.st.n_wide, T.st.n_high, T.st.n_row, T.st.n_column, T.st.n_late, T.st.n_ink, T.st.n_wrap, T.st.n_putting, T.st.n_home, T.st.n_top, T.st.n_bottom, T.st.n_left, T.st.n_right, T.st.n_stops, T.st.n_kept, T.st.n_last, zu, z7, z9, yz, zC, ya, yA, yb, zv, yc, yB, zD, yd, zK, zL, ye, yf, yC, zE, yg, yD, yh, zw, yi, yE, zF, yj, zM, yk]
  refine .inl (h st kp _ hst hkp zl ?_ ?_ fun b h1 h2 h3 => ?_)
  · rw [zg nsx, zg (Ne.symm nks), zg nsx, zl]
  · rw [zg nkx, zl]
  · rw [zg h1, zg h3, zg h1, zg h2, zg h1]
theorem YI (F : Fun K "__init__" "State.__init__" yY f fd) (T : Txt K mg C) (zfU : Cal P w K mg base 3 "blank_picture" [.int 0] (zd K uZ)) (zfv : CalT P w K mg base 2 "begin" C (zd K (XF C))) : FnOk P w K mg base CX0 4 f fd ["self", "wide", "high"] (zd K (U9 C)) := by
  apply F.okV ki (by rintro _ _ _ ⟨x, dx, w, h, rfl, _⟩; rfl) (fun cdv A outer sh H E hr => (zb (yF (K := K) rfl (pv 0) (zn zfU (hr.mono (by decide)) rfl (QA.pa (qc (pv 1) (qc (pv 2) qn)))) rfl)
      (zb (yF (K := K) rfl (pv 0) (pv 1) rfl)
      (zb (yF (K := K) rfl (pv 0) (pv 2) rfl)
      (zf (yn (zbi zfv (hr.mono (by decide)) (pv 0))))))))
  · walk_at "ref"
  rintro _ O R ⟨x, dx, a, b, rfl, hx, a1, a2, b1, b2, h⟩
  walk_at "wd"
  refine ⟨a, b, 0, rfl, a1, a2, b1, b2, fun p hp => ?_⟩
  have npx : p ≠ x := fun e => by rw [e, hx] at hp; cases hp
  simp [zg (Ne.symm npx), hx, zex, zey, zez, Qa, and_assoc, zk, T.st.cl, T.st.n_picture, T.st.n_wide, T.st.n_high, T.st.n_row, T.st.n_column, T.st.n_late, T.st.n_ink, T.st.n_wrap, T.st.n_putting, T.st.n_home, T.st.n_top, T.st.n_bottom, T.st.n_left, T.st.n_right, T.st.n_stops, T.st.n_kept, T.st.n_last, zu, z7, z9, yz, zC, ya, yA, yb, zv, yc, yB, zD, yd, zK, zL, ye, yf, yC, zE, yg, yD, yh, zw, yi, yE, zF, yj, zM, yk]
  refine ⟨by rintro c d (⟨rfl, _⟩ | ⟨rfl, _⟩ | ⟨rfl, _⟩) <;> decide, x, dx, p, a, b, rfl, zl, a1, a2, fun st kp O' hst hkp h1 h2 h3 h4 => .inl ?_⟩
  have nsx : st ≠ x := fun e => by rw [e, zl] at hst; cases hst
  rw [zg nsx] at hst
  have nsp : st ≠ p := fun e => by rw [e, zl] at hst; cases hst
  rw [zg nsp] at hst
  have nkx : kp ≠ x := fun e => by rw [e, zl] at hkp; cases hkp
  rw [zg nkx] at hkp
  have nkp : kp ≠ p := fun e => by rw [e, zl] at hkp; cases hkp
  rw [zg nkp] at hkp
  refine h p st kp O' hp hst hkp ⟨h1, ?_, h2, h3⟩ fun c q1 q2 q3 q4 => ?_
  · rw [h4 p npx (Ne.symm nsp) (Ne.symm nkp), zg npx, zl]
    rfl
  · rw [h4 c q1 q3 q4, zg q1, zg q2]
end
section
variable {P : Program} {w : World} {K : PySem.W.Frag} {mg : Str → Option Value} {base : Heap} {f C : Addr} {fd : FuncData}
theorem Vf (F : Fun K "_law_sizes" "_law_sizes" uN f fd) (T : Txt K mg C) (zfD : Cal P w K mg base 1 "_law_mixed" [] (zd K uG)) : FnOk P w K mg base CX0 2 f fd ["_law_cell"] (zd K XH) := by
  have nd := jd.nd
  apply F.okV jd (by rintro _ _ _ ⟨c, rfl, _⟩; rfl) (fun cdv A outer sh H E hr => (zb (z0 (i := 1) nd rfl (Or.inl rfl) (zi yL (zn zfD (hr.mono (by decide)) rfl (QA.pa (qc (pv 0) (qc zc qn)))) zc))
      (zb (z0 (i := 2) nd rfl (Or.inl rfl) (zi yJ (zi yL (pv 1) zc) zc))
      (zb (z0 (i := 3) nd rfl (Or.inl rfl) (zi yL (pv 1) zc))
      (zb (yG (ym xB (zi yJ (zi yL (pv 1) zc) zc) zc (zN _)) (zf (yl (yO (qc zc (qc zc qn))))) yx)
      (zb (z0 (i := 4) nd rfl (Or.inl rfl) (zi yK zc (zi yJ (pv 1) (yN (xa (K := K) rfl) (xc (qc zc (qc zc (qc zc (qc zc qn))))) (pv 2) (fun _ _ => rfl)))))
      (zf (yl (yO (qc (pv 4) (qc (zi yK zc (zi yJ (pv 3) (yN (xa (K := K) rfl) (xc (qc zc (qc zc (qc zc (qc zc qn))))) (pv 2) (fun _ _ => rfl)))) qn)))))))))))
  · walk_at "ref"
  rintro _ O R ⟨c, rfl, hb, h⟩
  have m0 := qr c 1
  have m1 := zbN c 1
  have fin : ∀ a b : Int, 1 ≤ a → a ≤ 24 → 1 ≤ b → b ≤ 12 → Clo R (.d (.tuple [.int a, .int b])) O := fun a b a1 a2 b1 b2 => by
    have := h a.toNat b.toNat (by omega) (by omega) (by omega) (by omega)
    rw [Int.toNat_of_nonneg (by omega), Int.toNat_of_nonneg (by omega)] at this
    exact .inl this
  refine kf (fun ρ' O' => ρ' = [some (.d (.int c)), some (.d (.int (xW c 1 / 8))), some (.d (.int (xW c 1 / 8 / 24 % 4))), some (.d (.int (xW c 1 / 8 / 96))), none] ∧ O = O') (fun R1 hR1 => ?_) ?_
  · walk_at "wd"
    simp [xK, hb]
    exact hR1 _ _ ⟨rfl, rfl⟩
  rintro _ _ ⟨rfl, rfl⟩
  generalize xW c 1 / 8 = m at *
  walk_at "wd"
  simp [xK]
  split
  · exact fin 24 12 (by decide) (by decide) (by decide) (by decide)
  · have hw : m / 24 % 4 = 0 ∨ m / 24 % 4 = 1 ∨ m / 24 % 4 = 2 ∨ m / 24 % 4 = 3 := by omega
    rcases hw with e | e | e | e <;> rw [e] <;> simp [atI, ixN, yR] <;> exact fin _ _ (by omega) (by omega) (by omega) (by omega)
theorem kj (F : Fun K "_law_right_edge" "_law_right_edge" vt f fd) (T : Txt K mg C) : FnOk P w K mg base CX0 1 f fd ["_law_own"] (zd K jD) := by
  apply F.okV jR (by rintro _ _ _ ⟨d, q, S, rfl, _⟩; rfl) (fun cdv A outer sh H E hr => (zb (yG (ym xw (zh (zm hr) (pv 0) ze (fun _ _ => rfl)) (zh (zm hr) (pv 0) ze (fun _ _ => rfl)) (zN _)) (zf (yl (zh (zm hr) (pv 0) ze (fun _ _ => rfl)))) yx)
      (zf (yl (zi yX (zh (zm hr) (pv 0) ze (fun _ _ => rfl)) zc)))))
  · walk_at "ref"
  rintro _ O R ⟨d, q, S, rfl, hd, h⟩
  walk_at "wd"
  simp [hd, and_assoc, zk, zP, zQ, yq, zR, zG, zy, zH, zS, zp, zT, zO, zU, yr, yt, zz, yu, zA, zV, yv, zW, zt, zX, yw, zB, zY, zI, zZ, zJ]
  split
  · rename_i e; rw [eR, if_pos e] at h; exact .inl h
  · rename_i e; rw [eR, if_neg e] at h; exact .inl h
theorem jW (F : Fun K "_law_drawn_cells" "_law_drawn_cells" vj f fd) (T : Txt K mg C) (zfD : Cal P w K mg base 1 "_law_mixed" [] (zd K uG)) : FnOk P w K mg base CX0 2 f fd ["_law_cell", "_law_wide", "_law_high"] (zd K XI) := by
  have nd := vJ.nd
  apply F.okV vJ (by rintro _ _ _ ⟨c, a, b, rfl, _⟩; rfl) (fun cdv A outer sh H E hr => (zb (z0 (i := 3) nd rfl (Or.inl rfl) ze)
      (zb (z0 (i := 3) nd rfl (Or.inl rfl) (zi Us (pv 3) ze))
      (zb (z0 (i := 4) nd rfl (Or.inl rfl) (zi yL (zn zfD (hr.mono (by decide)) rfl (QA.pa (qc (pv 0) (qc zc qn)))) zc))
      (zb (z0 (i := 5) nd rfl (Or.inl rfl) zbC)
      (zb (xE PassesOwn.never rfl (xH rfl T.n_range (QA.pa (qc (pv 2) qn))) (yI (i := 6) nd rfl (Or.inl rfl))
      (zb (z0 (i := 7) nd rfl (Or.inl rfl) (V3 qn))
      (zb (xE PassesOwn.never rfl (xH rfl T.n_range (QA.pa (qc (pv 1) qn))) (yI (i := 8) nd rfl (Or.inl rfl))
      (zb (z0 (i := 9) nd rfl (Or.inl rfl) (zi yK (zi x3 zc (pv 6)) (pv 8)))
      (zb (z0 (i := 10) nd rfl (Or.inl rfl) (yN QQ (pv 3) (zi yJ (zi yK (pv 4) (zi x3 zc (pv 9))) (yU jr (by rfl) T.n_len (by rfl) (QA.pa (qc (pv 3) qn)))) (fun _ _ => rfl)))
      (zf (yn (Zp (K := K) rfl PySem.F.plainAttrs_list PySem.F.slot_list_append PySem.F.type_list_append jt (pv 7) (QA.pa (qc (yO (qc (pv 10) (qc (zi yJ (zi yL (zn zfD (hr.mono (by decide)) rfl (QA.pa (qc (pv 0) (qc (zi yK zc (pv 9)) qn)))) zc) zc) qn))) qn))))))))
      (zf (yn (Zp (K := K) rfl PySem.F.plainAttrs_list PySem.F.slot_list_append PySem.F.type_list_append jt (pv 5) (QA.pa (qc (pv 7) qn))))))))
      (zf (yl (pv 5)))))))))
  · walk_at "ref"
  rintro _ O R ⟨c, a, b, rfl, hb, ha, hbb, h⟩
  refine kf (fun ρ' O' => ρ' = [some (.d (.int c)), some (.d (.int a)), some (.d (.int b)), some (.d (.str (zsA ++ zsB))), some (.d (.int (xW c 51 / 8))), none, none, none, none, none, none] ∧ O = O') (fun R1 hR1 => ?_) ?_
  · walk_at "wd"
    simp [xK, hb]
    exact ⟨zbS, hR1 _ _ ⟨rfl, rfl⟩⟩
  rintro _ _ ⟨rfl, rfl⟩
  walk_at "wd"
  intro p hp
  refine ⟨by omega, ?_⟩
  refine xj.rng (f := fun i => (i : Int)) (fun i ρ O' => ∃ v6 v7 v8 v9 v10, ρ = [some (.d (.int c)), some (.d (.int a)), some (.d (.int b)), some (.d (.str (zsA ++ zsB))), some (.d (.int (xW c 51 / 8))), some (.own p), v6, v7, v8, v9, v10] ∧ O' = updO O p (.grid (genG i a (xX c)))) ⟨_, _, _, _, _, rfl, rfl⟩ ?_ ?_
  · rintro i _ _ hi ⟨v6, v7, v8, v9, v10, rfl, rfl⟩ R1 hR1
    refine yp (fun ρ' O' => ∃ l, updO O p (.grid (genG i a (xX c))) l = none ∧ ρ' = [some (.d (.int c)), some (.d (.int a)), some (.d (.int b)), some (.d (.str (zsA ++ zsB))), some (.d (.int (xW c 51 / 8))), some (.own p), some (.d (.int i)), some (.own l), v8, v9, v10] ∧ O' = updO (updO O p (.grid (genG i a (xX c)))) l (.lst [])) (fun R2 hR2 => ?_) ?_
    · walk_at "wd"
      exact fun l hl => hR2 _ _ ⟨l, hl, rfl, rfl⟩
    rintro _ _ ⟨l, hl, rfl, rfl⟩
    refine yp (fun ρ' O' => ∃ v8 v9 v10, ρ' = [some (.d (.int c)), some (.d (.int a)), some (.d (.int b)), some (.d (.str (zsA ++ zsB))), some (.d (.int (xW c 51 / 8))), some (.own p), some (.d (.int i)), some (.own l), v8, v9, v10] ∧ O' = updO (updO O p (.grid (genG i a (xX c)))) l (.lst (((List.range a).map fun j => yo (xX c i j)).map .d))) (fun R2 hR2 => ?_) ?_
    · walk_at "wd"
      refine ⟨by omega, ?_⟩
      refine xj.rng (f := fun i => (i : Int)) (fun j ρ O' => ∃ v8 v9 v10, ρ = [some (.d (.int c)), some (.d (.int a)), some (.d (.int b)), some (.d (.str (zsA ++ zsB))), some (.d (.int (xW c 51 / 8))), some (.own p), some (.d (.int i)), some (.own l), v8, v9, v10] ∧ O' = updO (updO O p (.grid (genG i a (xX c)))) l (.lst (((List.range j).map fun j => yo (xX c i j)).map .d))) ⟨_, _, _, rfl, rfl⟩ ?_ ?_
      · rintro j _ O2 hj ⟨v8, v9, v10, rfl, hO2⟩ R3 hR3
        have hm : 0 ≤ (xW c 51 / 8 + 7 * (24 * (i : Int) + j)) % 89 ∧ (xW c 51 / 8 + 7 * (24 * (i : Int) + j)) % 89 < 89 := by omega
        obtain ⟨L, hL⟩ : ∃ L, L = ((List.range j).map fun j => yo (xX c i j)).map W.d := ⟨_, rfl⟩
        rw [← hL] at hO2
        have e1 : O2 l = some (.lst L) := by rw [hO2, zl]
        have e2 : ∀ w, Z4 O2 (.own l) w = some (updO O2 l (.lst (L ++ [w]))) := fun w => by
          simp only [Z4, e1]
          rw [if_pos (by rw [hL]; simp; omega)]
        have nx : ∀ v w, w = yo (xX c i j) → R3 v (updO O2 l (.lst (L ++ [.d w]))) ∨ ∀ v8 v9 v10, v ≠ [some (.d (.int c)), some (.d (.int a)), some (.d (.int b)), some (.d (.str (zsA ++ zsB))), some (.d (.int (xW c 51 / 8))), some (.own p), some (.d (.int i)), some (.own l), v8, v9, v10] := by
          rintro v _ rfl
          by_cases hv : ∃ v8 v9 v10, v = [some (.d (.int c)), some (.d (.int a)), some (.d (.int b)), some (.d (.str (zsA ++ zsB))), some (.d (.int (xW c 51 / 8))), some (.own p), some (.d (.int i)), some (.own l), v8, v9, v10]
          · obtain ⟨v8, v9, v10, rfl⟩ := hv
            refine .inl (hR3 _ _ ⟨_, _, _, rfl, ?_⟩)
            rw [hO2, xR, hL, List.range_succ, List.map_append, List.map_append]
            rfl
          · exact .inr fun v8 v9 v10 e => hv ⟨v8, v9, v10, e⟩
        walk_at "wd"
        simp only [zdr]
        simp [xK, hb, zd8 hm.1 hm.2, yM, e2]
        refine ⟨mulL (by omega) (by omega), mulL (by omega) (by omega), by rw [sizeLine_eq]; decide, .inl ⟨rfl, by simp [yR, e1]⟩, by omega, by omega, ?_⟩
        rcases nx _ _ (show _ = yo (xX c i j) by simp [yo, xX]; rfl) with q | q
        · exact q
        · exact absurd rfl (q _ _ _)
      · rintro ρ O1 ⟨v8, v9, v10, rfl, rfl⟩
        exact hR2 _ _ ⟨_, _, _, rfl, rfl⟩
    rintro _ O2 ⟨v8, v9, v10, rfl, hO2⟩
    have hlp : p ≠ l := fun e => by rw [← e, zl] at hl; cases hl
    have eP : O2 p = some (.grid (genG i a (xX c))) := by rw [hO2, zg hlp, zl]
    have eA : Z4 O2 (.own p) (.own l) = some (updO O p (.grid (genG (i + 1) a (xX c)))) := by
      have eL : O2 l = some (.lst (((List.range a).map fun j => yo (xX c i j)).map .d)) := by rw [hO2, zl]
      simp only [Z4, eP, eL, xV, Option.map_some, y7]
      rw [if_pos (by omega), hO2, Jp hp hl, Jo]
    walk_at "wd"
    simp [eA]
    exact ⟨.inl ⟨rfl, by rw [y8 eP]; rfl⟩, hR1 _ _ ⟨_, _, _, _, _, rfl, rfl⟩⟩
  · rintro ρ O1 ⟨v6, v7, v8, v9, v10, rfl, rfl⟩
    walk_at "wd"
    exact .inl (h _ _ (KR c) hp)
theorem VH (F : Fun K "_law_dyes" "_law_dyes" qj f fd) (T : Txt K mg C) : FnOk P w K mg base CX0 1 f fd ["_law_ink"] (zd K Y0) := by
  have nd := jS.nd
  apply F.okV jS (by rintro _ _ _ ⟨i, rfl, _⟩; rfl) (fun cdv A outer sh H E hr => (zb (Xj (i := 1) nd rfl rfl (u7 (N := ["_law_k", "_law_ink"]) (n := 1) (js := [0])) rfl (Z5 (K := K) rfl (yO (qc zc (qc zc (qc zc qn))))) (fun _ _ _ _ => (yI (i := 0) (show List.Nodup (["_law_k", "_law_ink"] : List Str) by decide +kernel) rfl (Or.inl rfl))) (fun _ _ _ _ => (ZX (ym xB (zi yJ (zi yL (pv 1) (yN (xa (K := K) rfl) (xc (qc zc (qc zc (qc zc (qc zc qn))))) (pv 0) (fun _ _ => rfl))) zc) zc (zN _)))) (fun _ _ _ _ => (pv 0)))
      (zf (yl (zi (V8 (K := K) rfl) (zi (V8 (K := K) rfl) (yO (qc zc qn)) (xQ (zdc (K := K) rfl) (by rfl) T.n_tuple rfl (QA.pa (qc (pv 1) qn)))) (yO (qc (zi yK zc (zi yJ (pv 0) zc)) (qc (zi yK zc (zi yJ (zi yL (pv 0) zc) zc)) qn))))))))
  · walk_at "ref"
  rintro _ O R ⟨i, rfl, hi, h⟩
  have := hi.1
  have := hi.2
  walk_at "wd"
  refine ⟨ud i, ?_, ?_, ?_, ?_⟩
  · intro us hus
    match us, hus with
    | [u], _ => simp [yR, atI, ixN, xK, ud, YZ]
  · intro us hus
    match us, hus with
    | [u], _ => simp [yR, atI, ixN, xK, ud, YZ]
  · intro us hus
    match us, hus with
    | [u], _ => simp [yR, atI, ixN, xK, ud, YZ]
  have hlen : (List.filterMap (ud i ∘ W.d) [PyData.int 1, PyData.int 2, PyData.int 3]).length ≤ 3 := List.length_filterMap_le _ _
  refine ⟨List.filterMap (ud i ∘ W.d) [PyData.int 1, PyData.int 2, PyData.int 3], by simp only [ui, xA, yR, Option.bind_some, xV], by omega, ⟨by decide, by decide⟩, by omega, .inl ?_⟩
  have e : List.filterMap (ud i ∘ W.d) [PyData.int 1, PyData.int 2, PyData.int 3] = List.filterMap (ud i) [.d (.int 1), .d (.int 2), .d (.int 3)] := by rw [← List.filterMap_map]; rfl
  rw [e]
  exact h
theorem Vg (F : Fun K "_law_place" "_law_place" uP f fd) (T : Txt K mg C) : FnOk P w K mg base CX0 1 f fd ["_law_own", "_law_number"] (zd K kh) := by
  have nd := je.nd
  apply F.okV je (by rintro _ _ _ ⟨d, q, S, n, rfl, _⟩; rfl) (fun cdv A outer sh H E hr => (zb (z0 (i := 2) nd rfl (Or.inl rfl) (zi yJ (pv 1) (zh (zm hr) (pv 0) ze (fun _ _ => rfl))))
      (zb (z0 (i := 3) nd rfl (Or.inl rfl) (zi yJ (zi yL (pv 1) zc) (zh (zm hr) (pv 0) ze (fun _ _ => rfl))))
      (zb (z0 (i := 4) nd rfl (Or.inl rfl) (xc (qc (pv 2) (qc (pv 2) (qc (zh (zm hr) (pv 0) ze (fun _ _ => rfl)) (qc (zh (zm hr) (pv 0) ze (fun _ _ => rfl)) qn))))))
      (zb (z0 (i := 5) nd rfl (Or.inl rfl) (xc (qc (pv 3) (qc (pv 3) (qc (zh (zm hr) (pv 0) ze (fun _ _ => rfl)) (qc (zh (zm hr) (pv 0) ze (fun _ _ => rfl)) (qc (zi yX (zh (zm hr) (pv 0) ze (fun _ _ => rfl)) zc) qn)))))))
      (zb (yH (zm hr) (pv 0) ze (yN (xa (K := K) rfl) (pv 4) (zi yJ (zi yL (pv 1) zc) zc) (fun _ _ => rfl)) rfl)
      (zb (yH (zm hr) (pv 0) ze (yN (xa (K := K) rfl) (pv 5) (zi yJ (zi yL (pv 1) zc) zc) (fun _ _ => rfl)) rfl)
      (zf (yG (xb (zh (zm hr) (pv 0) ze (fun _ _ => rfl))) (zb (yH (zm hr) (pv 0) ze (yU (jo rfl) (by rfl) T.n_max (by rfl) (QA.pa (qc (zh (zm hr) (pv 0) ze (fun _ _ => rfl)) (qc (yU (vd rfl) (by rfl) T.n_min (by rfl) (QA.pa (qc (zh (zm hr) (pv 0) ze (fun _ _ => rfl)) (qc (zh (zm hr) (pv 0) ze (fun _ _ => rfl)) qn)))) qn)))) rfl)
      (zf (yH (zm hr) (pv 0) ze (yU (jo rfl) (by rfl) T.n_max (by rfl) (QA.pa (qc (zh (zm hr) (pv 0) ze (fun _ _ => rfl)) (qc (yU (vd rfl) (by rfl) T.n_min (by rfl) (QA.pa (qc (zh (zm hr) (pv 0) ze (fun _ _ => rfl)) (qc (zh (zm hr) (pv 0) ze (fun _ _ => rfl)) qn)))) qn)))) rfl))) yx)))))))))
  · walk_at "ref"
  rintro _ O R ⟨d, q, S, n, rfl, hn, hd, h1, h2, h⟩
  obtain ⟨kvs, hd, hk⟩ : ∃ kvs, O d = some (.dK kvs) ∧ (kvs = ownW q S ∨ kvs = ownW0 q S) := by rcases hd with hd | hd; exact ⟨_, hd, .inl rfl⟩; exact ⟨_, hd, .inr rfl⟩
  obtain ⟨v1, v2, v3, v4, v5, v6, v7, l1, l2, pp⟩ := zeA hk
  have hr : ∃ r : Int, atI [W.d (.int (n % S.h)), W.d (.int (n % S.h)), W.d (.int S.bottom), W.d (.int S.top)] (n / 12 % 4) = some (.d (.int r)) ∧ (Bds { S with row := 0, col := 0 } → 0 ≤ r ∧ r < S.h) := by
    have e1 : 0 ≤ n % (S.h : Int) := Int.emod_nonneg _ (by omega)
    have e2 : n % (S.h : Int) < S.h := Int.emod_lt_of_pos _ (by omega)
    have hw : n / 12 % 4 = 0 ∨ n / 12 % 4 = 1 ∨ n / 12 % 4 = 2 ∨ n / 12 % 4 = 3 := by omega
    rcases hw with e | e | e | e <;> rw [e]
    · exact ⟨_, rfl, fun _ => ⟨e1, e2⟩⟩
    · exact ⟨_, rfl, fun _ => ⟨e1, e2⟩⟩
    · exact ⟨_, rfl, fun b => ⟨Int.le_trans b.t0 b.tb, b.b1⟩⟩
    · exact ⟨_, rfl, fun b => ⟨b.t0, Int.lt_of_le_of_lt b.tb b.b1⟩⟩
  have hc : ∃ r : Int, atI [W.d (.int (n / 48 % S.w)), W.d (.int (n / 48 % S.w)), W.d (.int S.right), W.d (.int S.left), W.d (.int (S.w - 1))] (n / 1152 % 5) = some (.d (.int r)) ∧ (Bds { S with row := 0, col := 0 } → 0 ≤ r ∧ r < S.w) := by
    have e1 : 0 ≤ n / 48 % (S.w : Int) := Int.emod_nonneg _ (by omega)
    have e2 : n / 48 % (S.w : Int) < S.w := Int.emod_lt_of_pos _ (by omega)
    have hw : n / 1152 % 5 = 0 ∨ n / 1152 % 5 = 1 ∨ n / 1152 % 5 = 2 ∨ n / 1152 % 5 = 3 ∨ n / 1152 % 5 = 4 := by omega
    rcases hw with e | e | e | e | e <;> rw [e]
    · exact ⟨_, rfl, fun _ => ⟨e1, e2⟩⟩
    · exact ⟨_, rfl, fun _ => ⟨e1, e2⟩⟩
    · exact ⟨_, rfl, fun b => ⟨Int.le_trans b.l0 b.lr, b.rr⟩⟩
    · exact ⟨_, rfl, fun b => ⟨b.l0, Int.lt_of_le_of_lt b.lr b.rr⟩⟩
    · exact ⟨_, rfl, fun b => ⟨by omega, by omega⟩⟩
  obtain ⟨r, hr, hrb⟩ := hr
  obtain ⟨c, hc, hcb⟩ := hc
  walk_at "wd"
  simp [hd, v1, v2, v3, v4, v5, v6, v7, l1, l2, pp, hr, hc, xK, yR, yM, zl, xR, xm, and_assoc, zk, zP, zQ, yq, zR, zG, zy, zH, zS, zp, zT, zO, zU, yr, yt, zz, yu, zA, zV, yv, zW, zt, zX, yw, zB, zY, zI, zZ, zJ]
  refine ⟨by omega, by omega, ?_⟩
  cases hh : S.home with
  | false =>
    simp [hh]
    exact .inl (h _ ⟨r, c, by simp [hh]⟩ fun b => ⟨{ b with r0 := (hrb b).1, r1 := (hrb b).2, c0 := (hcb b).1, c1 := (hcb b).2 }, fun e => by simp at e⟩)
  | true =>
    simp [hh]
    refine .inl (h _ ⟨_, _, by rw [hh]⟩ fun b => ?_)
    have t0 := b.t0
    have tb := b.tb
    have b1 := b.b1
    have l0 := b.l0
    have lr := b.lr
    have rr := b.rr
    simp only at t0 tb b1 l0 lr rr
    have hR : S.top ≤ (if S.top < if r < S.bottom then r else S.bottom then if r < S.bottom then r else S.bottom else S.top) ∧ (if S.top < if r < S.bottom then r else S.bottom then if r < S.bottom then r else S.bottom else S.top) ≤ S.bottom := by
      repeat' split
      all_goals omega
    have hC : S.left ≤ (if S.left < if c < S.right then c else S.right then if c < S.right then c else S.right else S.left) ∧ (if S.left < if c < S.right then c else S.right then if c < S.right then c else S.right else S.left) ≤ S.right := by
      repeat' split
      all_goals omega
    exact ⟨{ b with r0 := by simp only; omega, r1 := by simp only; omega, c0 := by simp only; omega, c1 := by simp only; omega }, fun _ => ⟨hR.1, hR.2, hC.1, hC.2⟩⟩
end
section
variable {P : Program} {w : World} {K : PySem.W.Frag} {mg : Str → Option Value} {base : Heap} {f C : Addr} {fd : FuncData}
theorem YJ (F : Fun K "_law_window" "_law_window" um f fd) (T : Txt K mg C) : FnOk P w K mg base CX0 1 f fd ["_law_own"] (zd K KQ) := by
  apply F.okV Ye (by rintro _ _ _ ⟨d, q, S, rfl, _⟩; rfl) (fun cdv A outer sh H E hr => (zf (yl (yO (qc (zh (zm hr) (pv 0) ze (fun _ _ => rfl)) (qc (zh (zm hr) (pv 0) ze (fun _ _ => rfl)) (qc (zh (zm hr) (pv 0) ze (fun _ _ => rfl)) (qc (zh (zm hr) (pv 0) ze (fun _ _ => rfl)) qn))))))))
  · walk_at "ref"
  rintro _ O R ⟨d, q, S, rfl, hd, h⟩
  walk_at "wd"
  simp [hd, yM, and_assoc, zk, zP, zQ, yq, zR, zG, zy, zH, zS, zp, zT, zO, zU, yr, yt, zz, yu, zA, zV, yv, zW, zt, zX, yw, zB, zY, zI, zZ, zJ]
  exact .inl h
end
section
variable {P : Program} {w : World} {K : PySem.W.Frag} {mg : Str → Option Value} {base : Heap} {f C : Addr} {fd : FuncData}
theorem Vh (F : Fun K "_law_moved" "_law_moved" uT f fd) (T : Txt K mg C) : FnOk P w K mg base CX0 1 f fd ["_law_own", "_law_box", "_law_down", "_law_across"] (zd K Zy) := by
  have nd := jh.nd
  apply F.okV jh (by rintro _ _ _ ⟨d, q, S, t, b, l, r, dn, ac, rfl, _⟩; rfl) (fun cdv A outer sh H E hr => (zb (vc (pv 1) (V7 (K := K) (n := 4) rfl rfl (vK (yI (i := 4) nd rfl (Or.inl rfl)) (vK (yI (i := 5) nd rfl (Or.inl rfl)) (vK (yI (i := 6) nd rfl (Or.inl rfl)) (vK (yI (i := 7) nd rfl (Or.inl rfl)) VN))))))
      (zb (z0 (i := 8) nd rfl (Or.inl rfl) (zh (zm hr) (pv 0) ze (fun _ _ => rfl)))
      (zb (Je (i := 9) nd rfl rfl (u7 (N := ["_law_line"]) (n := 1) (js := [])) rfl (vS (K := K) rfl (pv 8)) (fun _ _ _ _ => (yI (i := 0) (show List.Nodup (["_law_line"] : List Str) by decide +kernel) rfl (Or.inl rfl))) (fun _ _ _ _ => vO) (fun _ _ _ _ => (xQ (zcY (K := K) rfl) (by rfl) T.n_list rfl (QA.pa (qc (pv 0) qn)))))
      (zb (xE PassesOwn.never rfl (vB rfl T.n_range (QA.pa (qc (pv 4) (qc (zi yK (pv 5) zc) qn)))) (yI (i := 10) nd rfl (Or.inl rfl))
      (zf (xE PassesOwn.never rfl (vB rfl T.n_range (QA.pa (qc (pv 6) (qc (zi yK (pv 7) zc) qn)))) (yI (i := 11) nd rfl (Or.inl rfl))
      (zb (vc (yO (qc ze (qc (zh (zm hr) (pv 0) ze (fun _ _ => rfl)) qn))) (vC (yN (xa (K := K) rfl) (pv 9) (pv 10) (fun _ _ => rfl)) (pv 11) xT))
      (zb (kZ (i := 12) (j := 13) rfl nd rfl rfl (by decide) rfl rfl (QA.pa (qc (zi yK (pv 10) (pv 2)) (qc (zi yK (pv 11) (pv 3)) qn))) rfl)
      (zf (yG (PW.pt (jj (vM xw xw (pv 4) (pv 12) (pv 5)) (qp (vM xw xw (pv 6) (pv 13) (pv 7))))) (zf (vc (yN (xa (K := K) rfl) (yN (xa (K := K) rfl) (pv 8) (pv 12) (fun _ _ => rfl)) (pv 13) (fun _ _ => rfl)) (vC (yN (xa (K := K) rfl) (pv 9) (pv 10) (fun _ _ => rfl)) (pv 11) xT))) yx)))))))
      (zf (yH (zm hr) (pv 0) ze (pv 9) rfl)))))))
  · walk_at "ref"
  rintro _ O R ⟨d, q, S, t, b, l, r, dn, ac, rfl, ho, hB, t0, tb, b1, l0, lr, r1, dn0, dn1, ac0, ac1, h⟩
  have hd := ho.d
  have := hB.h2
  have := hB.w2
  refine yp (fun ρ' O' => ρ' = [some (.own d), some (.d (.tuple [.int t, .int b, .int l, .int r])), some (.d (.int dn)), some (.d (.int ac)), some (.d (.int t)), some (.d (.int b)), some (.d (.int l)), some (.d (.int r)), none, none, none, none, none, none] ∧ O = O') (fun R1 hR1 => ?_) ?_
  · walk_at "wd"
    exact hR1 _ _ ⟨rfl, rfl⟩
  rintro _ _ ⟨rfl, rfl⟩
  refine yp (fun ρ' O' => ρ' = [some (.own d), some (.d (.tuple [.int t, .int b, .int l, .int r])), some (.d (.int dn)), some (.d (.int ac)), some (.d (.int t)), some (.d (.int b)), some (.d (.int l)), some (.d (.int r)), some (.own q), none, none, none, none, none] ∧ O = O') (fun R1 hR1 => ?_) ?_
  · walk_at "wd"
    simp [hd, and_assoc, zk, zP, zQ, yq, zR, zG, zy, zH, zS, zp, zT, zO, zU, yr, yt, zz, yu, zA, zV, yv, zW, zt, zX, yw, zB, zY, zI, zZ, zJ]
    exact hR1 _ _ ⟨rfl, rfl⟩
  rintro _ _ ⟨rfl, rfl⟩
  refine yp (fun ρ' O' => ∃ g, O g = none ∧ ρ' = [some (.own d), some (.d (.tuple [.int t, .int b, .int l, .int r])), some (.d (.int dn)), some (.d (.int ac)), some (.d (.int t)), some (.d (.int b)), some (.d (.int l)), some (.d (.int r)), some (.own q), some (.own g), none, none, none, none] ∧ O' = updO O g (.grid (genG S.h S.w S.pic))) (fun R1 hR1 => ?_) ?_
  · have e1 := y8 ho.q
    rw [y7] at e1
    walk_at "wd"
    refine ⟨_, e1, by simp; omega, fun v => match v with | .row _ i => (List.range S.w).map fun j => yo (S.pic i j) | _ => [], ?_, fun g hg => hR1 _ _ ⟨g, hg, rfl, ?_⟩⟩
    · intro a ha us hus
      obtain ⟨i, hi, rfl⟩ := List.mem_map.mp ha
      have hi : i < S.h := by simpa using hi
      match us, hus with
      | [u], _ =>
        have e2 := vT ho.q hi
        have e3 : yM ((List.range S.w).map fun j => W.d (yo (S.pic i j))) = some ((List.range S.w).map fun j => yo (S.pic i j)) := by
          have := xV ((List.range S.w).map fun j => yo (S.pic i j))
          rw [List.map_map] at this
          exact this
        simp [ui, xA, e2, e3]
        exact fun p hp => ⟨p, hp, rfl, rfl⟩
    · rw [List.map_map]
      rfl
  rintro _ _ ⟨g, hg, rfl, rfl⟩
  have gd : d ≠ g := neO hd hg
  have gq : q ≠ g := neO ho.q hg
  generalize hN : mvP S.pic S.ink t b l r dn ac = N
  refine yp (fun ρ' O' => ∃ v10 v11 v12 v13, ρ' = [some (.own d), some (.d (.tuple [.int t, .int b, .int l, .int r])), some (.d (.int dn)), some (.d (.int ac)), some (.d (.int t)), some (.d (.int b)), some (.d (.int l)), some (.d (.int r)), some (.own q), some (.own g), v10, v11, v12, v13] ∧ O' = updO O g (.grid (genG S.h S.w N))) (fun R1 hR1 => ?_) ?_
  · walk_at "wd"
    refine ⟨by omega, by omega, by omega, by omega, ?_⟩
    refine xj.rng (fun i ρ O' => ∃ v10 v11 v12 v13, ρ = [some (.own d), some (.d (.tuple [.int t, .int b, .int l, .int r])), some (.d (.int dn)), some (.d (.int ac)), some (.d (.int t)), some (.d (.int b)), some (.d (.int l)), some (.d (.int r)), some (.own q), some (.own g), v10, v11, v12, v13] ∧ O' = updO O g (.grid (genG S.h S.w (goP N S.pic t l i 0)))) ⟨_, _, _, _, rfl, ?_⟩ ?_ ?_
    · rw [qL (fun a' b' hab => by rw [← hN]; exact xD (by omega))]
    · rintro i _ _ hi ⟨v10, v11, v12, v13, rfl, rfl⟩ R2 hR2
      walk_at "wd"
      refine ⟨by omega, by omega, by omega, by omega, ?_⟩
      refine xj.rng (fun j ρ O' => ∃ v11 v12 v13, ρ = [some (.own d), some (.d (.tuple [.int t, .int b, .int l, .int r])), some (.d (.int dn)), some (.d (.int ac)), some (.d (.int t)), some (.d (.int b)), some (.d (.int l)), some (.d (.int r)), some (.own q), some (.own g), some (.d (.int (t + i))), v11, v12, v13] ∧ O' = updO O g (.grid (genG S.h S.w (goP N S.pic t l i j)))) ⟨_, _, _, rfl, rfl⟩ ?_ ?_
      · rintro j _ O2 hj ⟨v11, v12, v13, rfl, hO2⟩ R3 hR3
        have hg2 : O2 g = some (.grid (genG S.h S.w (goP N S.pic t l i j))) := by rw [hO2, zl]
        have hd2 : O2 d = some (.dK (ownW q S)) := by rw [hO2, zg gd]; exact hd
        have e1 := y8 hg2
        rw [y7] at e1
        have e2 : ∀ y, atI ((List.range S.h).map (W.row y)) (t + (i : Int)) = some (W.row y (t + (i : Int)).toNat) := fun y => xf (by omega) (by omega)
        refine yp (fun ρ' O' => ρ' = [some (.own d), some (.d (.tuple [.int t, .int b, .int l, .int r])), some (.d (.int dn)), some (.d (.int ac)), some (.d (.int t)), some (.d (.int b)), some (.d (.int l)), some (.d (.int r)), some (.own q), some (.own g), some (.d (.int (t + i))), some (.d (.int (l + j))), v12, v13] ∧ O' = updO O g (.grid (genG S.h S.w (setF (goP N S.pic t l i j) (t + (i : Int)).toNat (l + (j : Int)).toNat (xo S.ink))))) (fun R4 hR4 => ?_) ?_
        · have e3 := vg (c := xo S.ink) hg2 (i := (t + (i : Int)).toNat) (k := l + j) (by omega) (by omega) (by omega)
          have e4 : (.tuple [.str (Str.ofString " "), .int S.ink] : PyData) = yo (xo S.ink) := rfl
          walk_at "wd"
          simp [hd2, e1, e2, yM, e4, e3, and_assoc, zk, zP, zQ, yq, zR, zG, zy, zH, zS, zp, zT, zO, zU, yr, yt, zz, yu, zA, zV, yv, zW, zt, zX, yw, zB, zY, zI, zZ, zJ]
          exact hR4 _ _ ⟨rfl, by rw [hO2, xR]⟩
        rintro _ O3 ⟨rfl, hO3⟩
        have hg3 : O3 g = some (.grid (genG S.h S.w (setF (goP N S.pic t l i j) (t + (i : Int)).toNat (l + (j : Int)).toNat (xo S.ink)))) := by rw [hO3, zl]
        have hq3 : O3 q = some (.grid (genG S.h S.w S.pic)) := by rw [hO3, zg gq]; exact ho.q
        have e1' := y8 hg3
        rw [y7] at e1'
        have e5 := y8 hq3
        rw [y7] at e5
        by_cases hin : (t ≤ t + i + dn ∧ t + i + dn ≤ b) ∧ (l ≤ l + j + ac ∧ l + j + ac ≤ r)
        · have eN : N (t + (i : Int)).toNat (l + (j : Int)).toNat = S.pic (t + i + dn).toNat (l + j + ac).toNat := by
            rw [← hN]
            unfold mvP
            rw [if_pos (by omega), if_pos (by omega)]
            unfold atF
            congr 1 <;> first | omega | (congr 1; omega)
          have e6 : atI ((List.range S.h).map (W.row q)) (t + i + dn) = some (W.row q (t + i + dn).toNat) := xf (by omega) (by omega)
          have e7 := vT hq3 (i := (t + i + dn).toNat) (by omega)
          have e8 : atI ((List.range S.w).map fun j => W.d (yo (S.pic (t + i + dn).toNat j))) (l + j + ac) = some (.d (yo (S.pic (t + i + dn).toNat (l + j + ac).toNat))) := xf (by omega) (by omega)
          have e9 := vg (c := S.pic (t + i + dn).toNat (l + j + ac).toNat) hg3 (i := (t + (i : Int)).toNat) (k := l + j) (by omega) (by omega) (by omega)
          walk_at "wd"
          simp [hin, e1', e2, e5, e6, e7, e8, e9, zk]
          refine hR3 _ _ ⟨_, _, _, rfl, ?_⟩
          rw [hO3, xR, Jq, ← eN, uI (by omega) (by omega)]
        · have eN : N (t + (i : Int)).toNat (l + (j : Int)).toNat = xo S.ink := by
            rw [← hN]
            unfold mvP
            rw [if_pos (by omega), if_neg (by omega)]
          walk_at "wd"
          rw [if_neg (by omega)]
          refine hR3 _ _ ⟨_, _, _, rfl, ?_⟩
          rw [hO3, ← eN, uI (by omega) (by omega)]
      · rintro ρ O2 ⟨v11, v12, v13, rfl, rfl⟩
        refine hR2 _ _ ⟨_, _, _, _, rfl, ?_⟩
        rw [kd (fun a' b' h1 h2 => by rw [← hN]; exact xD (by omega)) (fun a' b' h1 h2 => by rw [← hN]; exact xD (by omega))]
    · rintro ρ O1 ⟨v10, v11, v12, v13, rfl, rfl⟩
      refine hR1 _ _ ⟨_, _, _, _, rfl, ?_⟩
      rw [ke (fun a' b' h1 => by rw [← hN]; exact xD (by omega))]
  rintro _ O1 ⟨v10, v11, v12, v13, rfl, hO1⟩
  have hd1 : O1 d = some (.dK (ownW q S)) := by rw [hO1, zg gd]; exact hd
  walk_at "wd"
  simp [hd1, xm, and_assoc, zk, zP, zQ, yq, zR, zG, zy, zH, zS, zp, zT, zO, zU, yr, yt, zz, yu, zA, zV, yv, zW, zt, zX, yw, zB, zY, zI, zZ, zJ]
  refine .inl (h g _ hg ⟨?_, ?_⟩ fun c h1 h2 => ?_)
  · rw [zl]; rfl
  · rw [zg (Ne.symm gd), hO1, zl, ← hN]; rfl
  · rw [zg h1, hO1, zg h2]
theorem ZM (F : Fun K "_law_go_there" "_law_go_there" vG f fd) (T : Txt K mg C) (zgk : Cal P w K mg base 3 "to_place" [] (zd K (Zt C))) : FnOk P w K mg base CX0 4 f fd ["_law_state_here", "_law_own"] (zd K (sGo C)) := by
  have nd := uQ.nd
  apply F.okV uQ (by rintro _ _ _ ⟨x, dx, p, st, kp, d, q, S, S', rfl, _⟩; rfl) (fun cdv A outer sh H E hr => (zb (kZ (i := 2) (j := 3) rfl nd rfl rfl (by decide) rfl rfl (QA.pa (qc (zi yK (zh (zm hr) (pv 1) ze (fun _ _ => rfl)) zc) (qc (zi yK (zh (zm hr) (pv 1) ze (fun _ _ => rfl)) zc) qn))) rfl)
      (zb (yG (xb (zh (zm hr) (pv 1) ze (fun _ _ => rfl))) (zf (kZ (i := 2) (j := 3) rfl nd rfl rfl (by decide) rfl rfl (QA.pa (qc (zi yX (pv 2) (zh (zm hr) (pv 1) ze (fun _ _ => rfl))) (qc (zi yX (pv 3) (zh (zm hr) (pv 1) ze (fun _ _ => rfl))) qn))) rfl)) yx)
      (zf (yn (zn zgk (hr.mono (by decide)) rfl (QA.pa (qc (pv 0) (qc (pv 2) (qc (pv 3) qn))))))))))
  · walk_at "ref"
  rintro _ O R ⟨x, dx, p, st, kp, d, q, S, S', rfl, hb, hB, hW, ew, eh, ehm, et, eb, el, er, h⟩
  have hd := hb.o.d
  have := hB.r0
  have := hB.r1
  have := hB.h2
  have := hB.c0
  have := hB.c1
  have := hB.w2
  have := hB.t0
  have := hB.l0
  walk_at "wd"
  simp [hd, and_assoc, zk, zP, zQ, yq, zR, zG, zy, zH, zS, zp, zT, zO, zU, yr, yt, zz, yu, zA, zV, yv, zW, zt, zX, yw, zB, zY, zI, zZ, zJ]
  cases hh : S'.home with
  | true =>
    obtain ⟨w1, w2, w3, w4⟩ := hW hh
    simp
    refine ⟨_, _, ?_, ?_, x, dx, p, st, kp, S, rfl, hb.s, trivial, fun O' h1 h2 => .inl (h O' (hb.st' ?_ h2) h2)⟩
    · exact ⟨by omega, by omega⟩
    · exact ⟨by omega, by omega⟩
    · rw [plS, if_pos (by rw [ehm]; exact hh)] at h1
      have e1 : x6 (.int (S'.row + 1 - S'.top)) S.top S.bottom = S'.row := by simp only [x6, xn, et, eb]; split <;> split at * <;> omega
      have e2 : x6 (.int (S'.col + 1 - S'.left)) S.left S.right = S'.col := by simp only [x6, xn, el, er]; split <;> split at * <;> omega
      rw [e1, e2] at h1
      exact h1
  | false =>
    simp
    refine ⟨_, _, ?_, ?_, x, dx, p, st, kp, S, rfl, hb.s, trivial, fun O' h1 h2 => .inl (h O' (hb.st' ?_ h2) h2)⟩
    · exact ⟨by omega, by omega⟩
    · exact ⟨by omega, by omega⟩
    · rw [plS, if_neg (by rw [ehm, hh]; decide)] at h1
      have e1 : x6 (.int (S'.row + 1)) 0 (S.h - 1) = S'.row := by simp only [x6, xn, eh]; split <;> split at * <;> omega
      have e2 : x6 (.int (S'.col + 1)) 0 (S.w - 1) = S'.col := by simp only [x6, xn, ew]; split <;> split at * <;> omega
      rw [e1, e2] at h1
      exact h1
end
section
variable {P : Program} {w : World} {K : PySem.W.Frag} {mg : Str → Option Value} {base : Heap} {f C : Addr} {fd : FuncData}
theorem YK (F : Fun K "_law_own_by" "_law_own_by" ul f fd) (T : Txt K mg C) (zfw : Cal P w K mg base 1 "_law_cell_at" [] (zd K qt)) (zfD : Cal P w K mg base 1 "_law_mixed" [] (zd K uG)) (zfL : Cal P w K mg base 2 "_law_sizes" [] (zd K XH))
    (zfz : Cal P w K mg base 2 "_law_drawn_cells" [] (zd K XI)) (zfH : Cal P w K mg base 1 "_law_place" [] (zd K kh)) (zfJ : Cal P w K mg base 1 "_law_right_edge" [] (zd K jD)) : FnOk P w K mg base CX0 3 f fd ["_law_script"] (zd K XM) := by
  have nd := qy.nd
  apply F.okV qy (by rintro _ _ _ ⟨ns, rfl, _⟩; rfl) (fun cdv A outer sh H E hr => (zb (vc (zn zfL (hr.mono (by decide)) rfl (QA.pa (qc (zn zfw (hr.mono (by decide)) rfl (QA.pa (qc (pv 0) (qc zc qn)))) qn))) (V7 (K := K) (n := 2) rfl rfl (vK (yI (i := 1) nd rfl (Or.inl rfl)) (vK (yI (i := 2) nd rfl (Or.inl rfl)) VN))))
      (zb (z0 (i := 3) nd rfl (Or.inl rfl) (zi yL (zn zfD (hr.mono (by decide)) rfl (QA.pa (qc (zn zfw (hr.mono (by decide)) rfl (QA.pa (qc (pv 0) (qc zc qn)))) (qc zc qn)))) zc))
      (zb (z0 (i := 4) nd rfl (Or.inl rfl) (zi yL (zn zfD (hr.mono (by decide)) rfl (QA.pa (qc (zn zfw (hr.mono (by decide)) rfl (QA.pa (qc (pv 0) (qc zc qn)))) (qc zc qn)))) zc))
      (zb (z0 (i := 5) nd rfl (Or.inl rfl) (zi yL (zn zfD (hr.mono (by decide)) rfl (QA.pa (qc (zn zfw (hr.mono (by decide)) rfl (QA.pa (qc (pv 0) (qc zc qn)))) (qc zc qn)))) zc))
      (zb (z0 (i := 6) nd rfl (Or.inl rfl) (Z0 (vf ze (pv 1) (vf ze (pv 2) (vf ze zc (vf ze zc ZZ)))) rfl rfl (by decide) (by decide)))
      (zb (yH (zm hr) (pv 6) ze (zn zfz (hr.mono (by decide)) rfl (QA.pa (qc (zn zfw (hr.mono (by decide)) rfl (QA.pa (qc (pv 0) (qc zc qn)))) (qc (pv 1) (qc (pv 2) qn))))) rfl)
      (zb (yG (ym k8 (zi yJ (pv 5) zc) zc (zN _)) (zf (yn (Zp (K := K) rfl PySem.F.plainAttrs_dict PySem.F.slot_dict_update PySem.F.type_dict_update Yq (pv 6) (QA.pa (qc (Z0 (vf ze (zi yJ (pv 4) (pv 2)) (vf ze (zi yJ (zi yL (pv 4) zc) (pv 1)) ZZ)) rfl rfl (by decide) (by decide)) qn))))) yx)
      (zb (yn (Zp (K := K) rfl PySem.F.plainAttrs_dict PySem.F.slot_dict_update PySem.F.type_dict_update Yq (pv 6) (QA.pa (qc (Z0 (vf ze (zi yX (pv 2) zc) (vf ze (zi yX (pv 1) zc) ZZ)) rfl rfl (by decide) (by decide)) qn))))
      (zb (yG (ym k8 (zi yJ (pv 5) zc) zc (zN _)) (zb (yH (zm hr) (pv 6) ze (zi yK (zh (zm hr) (pv 6) ze (fun _ _ => rfl)) (zi yJ (zi yL (pv 4) zc) (zi yX (pv 2) (zh (zm hr) (pv 6) ze (fun _ _ => rfl))))) rfl)
      (zf (yH (zm hr) (pv 6) ze (zi yK (zh (zm hr) (pv 6) ze (fun _ _ => rfl)) (zi yJ (zi yL (pv 4) zc) (zi yX (pv 1) (zh (zm hr) (pv 6) ze (fun _ _ => rfl))))) rfl))) yx)
      (zb (yH (zm hr) (pv 6) ze (xu xB (zi yJ (zi yL (pv 5) zc) zc) zc (zN _)) rfl)
      (zb (yH (zm hr) (pv 6) ze (xu xB (zi yJ (zi yL (pv 5) zc) zc) zc (zN _)) rfl)
      (zb (yH (zm hr) (pv 6) ze (xu k8 (zi yJ (zi yL (pv 5) zc) zc) zc (zN _)) rfl)
      (zb (yH (zm hr) (pv 6) ze (yN (xa (K := K) rfl) (xc (qc xt (qc ze (qc ze (qc ze qn))))) (zi yJ (zi yL (pv 5) zc) zc) (fun _ _ => rfl)) rfl)
      (zb (yH (zm hr) (pv 6) ze (xu xB (zi yJ (zi yL (pv 5) zc) zc) zc (zN _)) rfl)
      (zb (yH (zm hr) (pv 6) ze (zi yJ (pv 3) zc) rfl)
      (zb (yn (zn zfH (hr.mono (by decide)) rfl (QA.pa (qc (pv 6) (qc (zi yL (pv 3) zc) qn)))))
      (zb (yG (xb (zh (zm hr) (pv 6) ze (fun _ _ => rfl))) (zb (yH (zm hr) (pv 6) ze (zn zfJ (hr.mono (by decide)) rfl (QA.pa (qc (pv 6) qn))) rfl)
      (zf (yH (zm hr) (pv 6) ze ze rfl))) yx)
      (zb (yG (ym vL (zh (zm hr) (pv 6) ze (fun _ _ => rfl)) xt (zN _)) (zf (vc (yO (qc (zh (zm hr) (pv 6) ze (fun _ _ => rfl)) (qc (zh (zm hr) (pv 6) ze (fun _ _ => rfl)) qn))) (vC (yN (xa (K := K) rfl) (zh (zm hr) (pv 6) ze (fun _ _ => rfl)) (zh (zm hr) (pv 6) ze (fun _ _ => rfl)) (fun _ _ => rfl)) (zh (zm hr) (pv 6) ze (fun _ _ => rfl)) xT))) yx)
      (zf (yl (pv 6))))))))))))))))))))))
  · walk_at "ref"
  rintro _ O R ⟨ns, rfl, hns, h⟩
  have hc : ∀ k : Nat, Bt 1048600 (ns[k]?.getD 0) := fun k => by
    cases e : ns[k]? with
    | none => exact (Bt.small (a := 0) (by decide) (by decide)).mono (by decide)
    | some n => exact (hns n (List.mem_of_getElem? e)).mono (by decide)
  refine yp (fun ρ' O' => ∃ a b : Nat, 1 ≤ a ∧ a ≤ 24 ∧ 1 ≤ b ∧ b ≤ 12 ∧ ρ' = [some (.d (.list (ns.map .int))), some (.d (.int a)), some (.d (.int b)), none, none, none, none] ∧ O = O') (fun R1 hR1 => ?_) ?_
  · walk_at "wd"
    refine ⟨ns, rfl, 0, rfl, ?_⟩
    exact ⟨_, rfl, hc 0, fun a b a1 a2 b1 b2 => by simp [and_assoc]; exact hR1 _ _ ⟨a, b, a1, a2, b1, b2, rfl, rfl⟩⟩
  rintro _ _ ⟨a, b, a1, a2, b1, b2, rfl, rfl⟩
  refine kf (fun ρ' O' => ∃ pl eg md : Int, 0 ≤ pl ∧ 0 ≤ eg ∧ 0 ≤ md ∧ ρ' = [some (.d (.list (ns.map .int))), some (.d (.int a)), some (.d (.int b)), some (.d (.int pl)), some (.d (.int eg)), some (.d (.int md)), none] ∧ O = O') (fun R1 hR1 => ?_) ?_
  · walk_at "wd"
    have m2 := qr (ns[1]?.getD 0) 2
    have m3 := qr (ns[2]?.getD 0) 3
    have m4 := qr (ns[3]?.getD 0) 4
    exact ⟨ns, rfl, 1, rfl, hc 1, ⟨by decide, by decide⟩, ns, rfl, 2, rfl, hc 2, ⟨by decide, by decide⟩, ns, rfl, 3, rfl, hc 3, ⟨by decide, by decide⟩, hR1 _ _ ⟨_, _, _, by omega, by omega, by omega, rfl, rfl⟩⟩
  rintro _ _ ⟨pl, eg, md, pl0, eg0, md0, rfl, rfl⟩
  refine yp (fun ρ' O' => ∃ d, O d = none ∧ ρ' = [some (.d (.list (ns.map .int))), some (.d (.int a)), some (.d (.int b)), some (.d (.int pl)), some (.d (.int eg)), some (.d (.int md)), some (.own d)] ∧ Old O O' ∧ O' d = some (.dK [(Sum.inr "wide", .d (.int a)), (Sum.inr "high", .d (.int b)), (Sum.inr "top", .d (.int 0)), (Sum.inr "left", .d (.int 0))])) (fun R1 hR1 => ?_) ?_
  · walk_at "wd"
    exact fun d hd => ⟨_, rfl, by show (4 : Nat) ≤ 15; decide, hR1 _ _ ⟨d, hd, rfl, Old.refl.upd hd, by rw [zl]; rfl⟩⟩
  rintro _ O1 ⟨d, hd0, rfl, ho1, hd1⟩
  refine yp (fun ρ' O' => ∃ q f, O q = none ∧ d ≠ q ∧ (∀ i j, okC (f i j)) ∧ ρ' = [some (.d (.list (ns.map .int))), some (.d (.int a)), some (.d (.int b)), some (.d (.int pl)), some (.d (.int eg)), some (.d (.int md)), some (.own d)] ∧ Old O O' ∧ O' q = some (.grid (genG b a f)) ∧ O' d = some (.dK ((ownW q ⟨a, b, 0, 0, false, 0, false, false, false, 0, 0, 0, 0, .none, f⟩).take 5))) (fun R1 hR1 => ?_) ?_
  · walk_at "wd"
    refine ⟨ns, rfl, 0, rfl, _, a, b, rfl, hc 0, a2, b2, fun f q hf hq => ?_⟩
    have hdq : d ≠ q := neO hd1 hq
    simp [zg hdq, hd1]
    exact hR1 _ _ ⟨q, f, ho1.new hq, hdq, hf, rfl, (ho1.upd (ho1.new hq)).upd hd0, by rw [zg (Ne.symm hdq), zl], by rw [zl]; rfl⟩
  rintro _ O2 ⟨q, f, hq0, hdq, hf, rfl, ho2, hq2, hd2⟩
  refine yp (fun ρ' O' => ∃ t l : Int, 0 ≤ t ∧ t < b ∧ 0 ≤ l ∧ l < a ∧ ρ' = [some (.d (.list (ns.map .int))), some (.d (.int a)), some (.d (.int b)), some (.d (.int pl)), some (.d (.int eg)), some (.d (.int md)), some (.own d)] ∧ Old O O' ∧ O' q = some (.grid (genG b a f)) ∧ O' d = some (.dK ((ownW q ⟨a, b, 0, 0, false, 0, false, false, false, t, 0, l, 0, .none, f⟩).take 5))) (fun R1 hR1 => ?_) ?_
  · have e1 : 0 ≤ eg % (b : Int) := Int.emod_nonneg _ (by omega)
    have e2 : eg % (b : Int) < b := Int.emod_lt_of_pos _ (by omega)
    have e3 : 0 ≤ eg / 12 % (a : Int) := Int.emod_nonneg _ (by omega)
    have e4 : eg / 12 % (a : Int) < a := Int.emod_lt_of_pos _ (by omega)
    walk_at "wd"
    split
    · refine ⟨.inr (.inr ⟨rfl, d, _, rfl, hd2⟩), fun p hp => ?_⟩
      have hpd : d ≠ p := neO hd2 hp
      refine ⟨by omega, ⟨by decide, by decide⟩, by omega, _, rfl, by show (2 : Nat) ≤ 15; decide, ?_⟩
      simp [zg hpd, zl, hd2, hpd]
      have hqp : q ≠ p := neO hq2 hp
      exact ⟨by show (7 : Nat) ≤ 1000; decide, hR1 _ _ ⟨_, _, e1, e2, e3, e4, rfl, (ho2.upd (ho2.new hp)).upd hd0, by rw [zg (Ne.symm hdq), zg hqp]; exact hq2, by rw [zl]; rfl⟩⟩
    · exact hR1 _ _ ⟨0, 0, by omega, by omega, by omega, by omega, rfl, ho2, hq2, hd2⟩
  rintro _ O3 ⟨t, l, t0, t1, l0, l1, rfl, ho3, hq3, hd3⟩
  refine yp (fun ρ' O' => ρ' = [some (.d (.list (ns.map .int))), some (.d (.int a)), some (.d (.int b)), some (.d (.int pl)), some (.d (.int eg)), some (.d (.int md)), some (.own d)] ∧ Old O O' ∧ O' q = some (.grid (genG b a f)) ∧ O' d = some (.dK ((ownW q ⟨a, b, 0, 0, false, 0, false, false, false, t, b - 1, l, a - 1, .none, f⟩).take 7))) (fun R1 hR1 => ?_) ?_
  · walk_at "wd"
    refine ⟨.inr (.inr ⟨rfl, d, _, rfl, hd3⟩), fun p hp => ?_⟩
    have hpd : d ≠ p := neO hd3 hp
    have hqp : q ≠ p := neO hq3 hp
    refine ⟨_, rfl, by show (2 : Nat) ≤ 15; decide, ?_⟩
    simp [zg hpd, zl, hd3, hpd]
    exact ⟨by show (7 : Nat) ≤ 1000; decide, hR1 _ _ ⟨rfl, (ho3.upd (ho3.new hp)).upd hd0, by rw [zg (Ne.symm hdq), zg hqp]; exact hq3, by rw [zl]; rfl⟩⟩
  rintro _ O4 ⟨rfl, ho4, hq4, hd4⟩
  refine yp (fun ρ' O' => ∃ bo ri : Int, t ≤ bo ∧ bo < b ∧ l ≤ ri ∧ ri < a ∧ ρ' = [some (.d (.list (ns.map .int))), some (.d (.int a)), some (.d (.int b)), some (.d (.int pl)), some (.d (.int eg)), some (.d (.int md)), some (.own d)] ∧ Old O O' ∧ O' q = some (.grid (genG b a f)) ∧ O' d = some (.dK ((ownW q ⟨a, b, 0, 0, false, 0, false, false, false, t, bo, l, ri, .none, f⟩).take 7))) (fun R1 hR1 => ?_) ?_
  · have e1 : 0 ≤ eg / 288 % ((b : Int) - t) := Int.emod_nonneg _ (by omega)
    have e2 : eg / 288 % ((b : Int) - t) < b - t := Int.emod_lt_of_pos _ (by omega)
    have e3 : 0 ≤ eg / 3456 % ((a : Int) - l) := Int.emod_nonneg _ (by omega)
    have e4 : eg / 3456 % ((a : Int) - l) < a - l := Int.emod_lt_of_pos _ (by omega)
    walk_at "wd"
    split
    · simp [hd4, zbT, KU, Js, KS, jE, xK, zl, xR, -List.length_take]
      exact ⟨t1, l1, hR1 _ _ ⟨_, _, by omega, by omega, by omega, by omega, rfl, ho4.upd hd0, by rw [zg (Ne.symm hdq)]; exact hq4, zl⟩⟩
    · exact hR1 _ _ ⟨_, _, by omega, by omega, by omega, by omega, rfl, ho4, hq4, hd4⟩
  rintro _ O5 ⟨bo, ri, bo0, bo1, ri0, ri1, rfl, ho5, hq5, hd5⟩
  refine yp (fun ρ' O' => ∃ hm : Bool, ρ' = [some (.d (.list (ns.map .int))), some (.d (.int a)), some (.d (.int b)), some (.d (.int pl)), some (.d (.int eg)), some (.d (.int md)), some (.own d)] ∧ Old O O' ∧ O' q = some (.grid (genG b a f)) ∧ O' d = some (.dK ((ownW q ⟨a, b, 0, 0, false, 0, false, false, hm, t, bo, l, ri, .none, f⟩).take 8))) (fun R1 hR1 => ?_) ?_
  · walk_at "wd"
    simp [hd5, jE, xK, t8, -List.length_take]
    exact hR1 _ _ ⟨_, rfl, ho5.upd hd0, by rw [zg (Ne.symm hdq)]; exact hq5, zl⟩
  rintro _ O6 ⟨hm, rfl, ho6, hq6, hd6⟩
  refine yp (fun ρ' O' => ∃ pu : Bool, ρ' = [some (.d (.list (ns.map .int))), some (.d (.int a)), some (.d (.int b)), some (.d (.int pl)), some (.d (.int eg)), some (.d (.int md)), some (.own d)] ∧ Old O O' ∧ O' q = some (.grid (genG b a f)) ∧ O' d = some (.dK ((ownW q ⟨a, b, 0, 0, false, 0, false, pu, hm, t, bo, l, ri, .none, f⟩).take 9))) (fun R1 hR1 => ?_) ?_
  · walk_at "wd"
    simp [hd6, jE, xK, t9, -List.length_take]
    exact hR1 _ _ ⟨_, rfl, ho6.upd hd0, by rw [zg (Ne.symm hdq)]; exact hq6, zl⟩
  rintro _ O7 ⟨pu, rfl, ho7, hq7, hd7⟩
  refine yp (fun ρ' O' => ∃ wr : Bool, ρ' = [some (.d (.list (ns.map .int))), some (.d (.int a)), some (.d (.int b)), some (.d (.int pl)), some (.d (.int eg)), some (.d (.int md)), some (.own d)] ∧ Old O O' ∧ O' q = some (.grid (genG b a f)) ∧ O' d = some (.dK ((ownW q ⟨a, b, 0, 0, false, 0, wr, pu, hm, t, bo, l, ri, .none, f⟩).take 10))) (fun R1 hR1 => ?_) ?_
  · walk_at "wd"
    simp [hd7, jE, xK, t10, -List.length_take]
    exact hR1 _ _ ⟨_, rfl, ho7.upd hd0, by rw [zg (Ne.symm hdq)]; exact hq7, zl⟩
  rintro _ O8 ⟨wr, rfl, ho8, hq8, hd8⟩
  refine yp (fun ρ' O' => ∃ la : PyData, (la = .none ∨ ∃ c, la = .str c ∧ PyData.strOk c = true) ∧ ρ' = [some (.d (.list (ns.map .int))), some (.d (.int a)), some (.d (.int b)), some (.d (.int pl)), some (.d (.int eg)), some (.d (.int md)), some (.own d)] ∧ Old O O' ∧ O' q = some (.grid (genG b a f)) ∧ O' d = some (.dK ((ownW q ⟨a, b, 0, 0, false, 0, wr, pu, hm, t, bo, l, ri, la, f⟩).take 11))) (fun R1 hR1 => ?_) ?_
  · have hw : md / 144 % 4 = 0 ∨ md / 144 % 4 = 1 ∨ md / 144 % 4 = 2 ∨ md / 144 % 4 = 3 := by omega
    walk_at "wd"
    simp [hd8, yR, xK, jE, -List.length_take]
    rcases hw with e | e | e | e <;> rw [e] <;> simp [atI, ixN, t11, jE, -List.length_take]
    · exact hR1 _ _ ⟨_, .inl rfl, rfl, ho8.upd hd0, by rw [zg (Ne.symm hdq)]; exact hq8, zl⟩
    · exact hR1 _ _ ⟨_, .inr ⟨Str.ofString "q", rfl, by decide +kernel⟩, rfl, ho8.upd hd0, by rw [zg (Ne.symm hdq)]; exact hq8, zl⟩
    · exact hR1 _ _ ⟨_, .inr ⟨Str.ofString "~", rfl, by decide +kernel⟩, rfl, ho8.upd hd0, by rw [zg (Ne.symm hdq)]; exact hq8, zl⟩
    · exact hR1 _ _ ⟨_, .inr ⟨Str.ofString " ", rfl, by decide +kernel⟩, rfl, ho8.upd hd0, by rw [zg (Ne.symm hdq)]; exact hq8, zl⟩
  rintro _ O9 ⟨la, hla, rfl, ho9, hq9, hd9⟩
  refine yp (fun ρ' O' => ∃ lt : Bool, ρ' = [some (.d (.list (ns.map .int))), some (.d (.int a)), some (.d (.int b)), some (.d (.int pl)), some (.d (.int eg)), some (.d (.int md)), some (.own d)] ∧ Old O O' ∧ O' q = some (.grid (genG b a f)) ∧ O' d = some (.dK ((ownW q ⟨a, b, 0, 0, lt, 0, wr, pu, hm, t, bo, l, ri, la, f⟩).take 12))) (fun R1 hR1 => ?_) ?_
  · walk_at "wd"
    simp [hd9, jE, xK, t12, -List.length_take]
    exact hR1 _ _ ⟨_, rfl, ho9.upd hd0, by rw [zg (Ne.symm hdq)]; exact hq9, zl⟩
  rintro _ O10 ⟨lt, rfl, ho10, hq10, hd10⟩
  refine yp (fun ρ' O' => ∃ ik : Int, Ink ik ∧ ρ' = [some (.d (.list (ns.map .int))), some (.d (.int a)), some (.d (.int b)), some (.d (.int pl)), some (.d (.int eg)), some (.d (.int md)), some (.own d)] ∧ Old O O' ∧ O' q = some (.grid (genG b a f)) ∧ O' d = some (.dK (ownW0 q ⟨a, b, 0, 0, lt, ik, wr, pu, hm, t, bo, l, ri, la, f⟩))) (fun R1 hR1 => ?_) ?_
  · walk_at "wd"
    simp [hd10, jE, xK, t13, -List.length_take]
    exact hR1 _ _ ⟨_, ⟨by omega, by omega⟩, rfl, ho10.upd hd0, by rw [zg (Ne.symm hdq)]; exact hq10, zl⟩
  rintro _ O11 ⟨ik, hik, rfl, ho11, hq11, hd11⟩
  refine yp (fun ρ' O' => ∃ S : ST, ρ' = [some (.d (.list (ns.map .int))), some (.d (.int a)), some (.d (.int b)), some (.d (.int pl)), some (.d (.int eg)), some (.d (.int md)), some (.own d)] ∧ Old O O' ∧ OwnAt O' d q S ∧ Bds S ∧ InWin S ∧ PicOk S ∧ (S.last = .none ∨ ∃ c, S.last = .str c ∧ PyData.strOk c = true)) (fun R1 hR1 => ?_) ?_
  · walk_at "wd"
    simp [xK]
    refine ⟨d, q, ⟨a, b, 0, 0, lt, ik, wr, pu, hm, t, bo, l, ri, la, f⟩, pl / 512, rfl, by omega, .inr hd11, b1, a1, ?_⟩
    rintro _ ⟨r, c, rfl⟩ hB
    have hB := hB ⟨a1, a2, b1, b2, by simp only; omega, by simp only; omega, by simp only; omega, by simp only; omega, t0, bo0, bo1, l0, ri0, ri1, hik.1, hik.2⟩
    exact hR1 _ _ ⟨_, rfl, ho11.upd hd0, ⟨zl, by rw [zg (Ne.symm hdq)]; exact hq11⟩, hB.1, hB.2, fun i j _ _ => hf i j, hla⟩
  rintro _ O12 ⟨S, rfl, ho12, hw12, hB, hW, hP, hL⟩
  refine yp (fun ρ' O' => ∃ S : ST, ρ' = [some (.d (.list (ns.map .int))), some (.d (.int a)), some (.d (.int b)), some (.d (.int pl)), some (.d (.int eg)), some (.d (.int md)), some (.own d)] ∧ Old O O' ∧ OwnAt O' d q S ∧ Bds S ∧ InWin S ∧ PicOk S ∧ (S.last = .none ∨ ∃ c, S.last = .str c ∧ PyData.strOk c = true) ∧ (S.late = true → S.col = eR S ∧ S.last ≠ .none)) (fun R1 hR1 => ?_) ?_
  · have hd12 := hw12.d
    walk_at "wd"
    simp [hd12, and_assoc, zk, zP, zQ, yq, zR, zG, zy, zH, zS, zp, zT, zO, zU, yr, yt, zz, yu, zA, zV, yv, zW, zt, zX, yw, zB, zY, zI, zZ, zJ]
    cases hl : S.late with
    | false =>
      simp
      exact hR1 _ _ ⟨S, rfl, ho12, hw12, hB, hW, hP, hL, fun e => by rw [hl] at e; cases e⟩
    | true =>
      simp
      refine ⟨d, q, S, rfl, hd12, ?_⟩
      simp [hd12, xm, zl, xR, and_assoc, zk, zP, zQ, yq, zR, zG, zy, zH, zS, zp, zT, zO, zU, yr, yt, zz, yu, zA, zV, yv, zW, zt, zX, yw, zB, zY, zI, zZ, zJ]
      have eR1 := qM hB
      have c0 := hB.c0
      refine hR1 _ _ ⟨{ S with col := eR S, last := .str (Str.ofString "~") }, rfl, ho12.upd hd0, hw12.fld rfl rfl rfl, { hB with c0 := by simp only; omega, c1 := eR1.2 }, fun e => ?_, hP, .inr ⟨Str.ofString "~", rfl, by decide +kernel⟩, fun _ => ⟨(Ua hB).symm, by intro e; cases e⟩⟩
      obtain ⟨w1, w2, w3, w4⟩ := hW e
      have e2 : eR S = S.right := by unfold eR; rw [if_pos w4]
      exact ⟨w1, w2, by show S.left ≤ eR S; have := hB.lr; omega, by show eR S ≤ S.right; omega⟩
  rintro _ O13 ⟨S1, rfl, ho13, hw13, hB1, hW1, hP1, hL1, hT1⟩
  have hd13 := hw13.d
  have e1 := y8 hw13.q
  rw [y7] at e1
  have e2 : atI ((List.range S1.h).map (W.row q)) S1.row = some (W.row q S1.row.toNat) := xf hB1.r0 hB1.r1
  have r0 := hB1.r0
  have r1 := hB1.r1
  walk_at "wd"
  simp [hd13, and_assoc, zk, zP, zQ, yq, zR, zG, zy, zH, zS, zp, zT, zO, zU, yr, yt, zz, yu, zA, zV, yv, zW, zt, zX, yw, zB, zY, zI, zZ, zJ]
  rcases hL1 with e | ⟨c, e, hc'⟩
  · simp [e, x9]
    exact .inl (h d q S1 _ hd0 hq0 hw13 ⟨hB1, hP1, hW1, .inl e, hT1⟩ fun x _ _ hx => ho13 x hx)
  · have e3 : u9 O13 (.row q S1.row.toNat) S1.col (.d (.tuple [.str c, .int S1.ink])) = _ := vg (c := (c, S1.ink)) hw13.q (by omega) hB1.c0 hB1.c1
    simp [e, x9, hd13, yM, e1, e2, e3, and_assoc, zk, zP, zQ, yq, zR, zG, zy, zH, zS, zp, zT, zO, zU, yr, yt, zz, yu, zA, zV, yv, zW, zt, zX, yw, zB, zY, zI, zZ, zJ]
    refine .inl (h d q _ _ hd0 hq0 hw13.pic ⟨hB1.pic', hP1.set hc', hW1, .inr ⟨c, e, ?_⟩, hT1⟩ fun x h1 h2 hx => by rw [zg h2]; exact ho13 x hx)
    show setF S1.pic S1.row.toNat S1.col.toNat (c, S1.ink) S1.row.toNat S1.col.toNat = _
    unfold setF
    rw [if_pos ⟨rfl, rfl⟩]
end
section
variable {P : Program} {w : World} {K : PySem.W.Frag} {mg : Str → Option Value} {base : Heap} {f C : Addr} {fd : FuncData}
theorem Vi (F : Fun K "_law_state" "_law_state" uR f fd) (T : Txt K mg C) (c_State : CalM P w K mg base 4 "State" C (zd K (U9 C))) (zgg : Cal P w K mg base 5 "set_rows" [] (zd K (U4 C))) (zgf : Cal P w K mg base 5 "set_columns" [] (zd K (U5 C)))
    (zgl : Cal P w K mg base 5 "turn_modes" [] (zd K (Zv C))) (zfB : Cal P w K mg base 4 "_law_go_there" [] (zd K (sGo C))) (zfZ : Cal P w K mg base 4 "dye" [] (zd K (U6 C))) (zfA : Cal P w K mg base 1 "_law_dyes" [] (zd K Y0)) (zgc : Cal P w K mg base 5 "put_sign" [] (zd K (vW C))) :
    FnOk P w K mg base CX0 6 f fd ["_law_own"] (zd K (XN C)) := by
  have nd := jf.nd
  apply F.okV jf (by rintro _ _ _ ⟨d, q, S, rfl, _⟩; rfl) (fun cdv A outer sh H E hr => (zb (z0 (i := 1) nd rfl (Or.inl rfl) (zcw c_State (hr.mono (by decide)) rfl (QA.pa (qc (zh (zm hr) (pv 0) ze (fun _ _ => rfl)) (qc (zh (zm hr) (pv 0) ze (fun _ _ => rfl)) qn)))))
      (zb (xE PassesOwn.never rfl (xH rfl T.n_range (QA.pa (qc (zh (zm hr) (pv 0) ze (fun _ _ => rfl)) qn))) (yI (i := 2) nd rfl (Or.inl rfl))
      (zf (xE PassesOwn.never rfl (xH rfl T.n_range (QA.pa (qc (zh (zm hr) (pv 0) ze (fun _ _ => rfl)) qn))) (yI (i := 3) nd rfl (Or.inl rfl))
      (zf (vc (yN (xa (K := K) rfl) (yN (xa (K := K) rfl) (zh (zm hr) (pv 0) ze (fun _ _ => rfl)) (pv 2) (fun _ _ => rfl)) (pv 3) (fun _ _ => rfl)) (vC (yN (xa (K := K) rfl) (zo (K := K) rfl (pv 1) rfl) (pv 2) (fun _ _ => rfl)) (pv 3) xT))))))
      (zb (yn (zn zgg (hr.mono (by decide)) rfl (QA.pa (qc (pv 1) (qc (zi yK (zh (zm hr) (pv 0) ze (fun _ _ => rfl)) zc) (qc (zi yK (zh (zm hr) (pv 0) ze (fun _ _ => rfl)) zc) qn))))))
      (zb (yn (zn zgf (hr.mono (by decide)) rfl (QA.pa (qc (pv 1) (qc (zi yK (zh (zm hr) (pv 0) ze (fun _ _ => rfl)) zc) (qc (zi yK (zh (zm hr) (pv 0) ze (fun _ _ => rfl)) zc) qn))))))
      (zb (yn (zn zgl (hr.mono (by decide)) rfl (QA.pa (qc (pv 1) (qc (yO (qc zc qn)) (qc (zh (zm hr) (pv 0) ze (fun _ _ => rfl)) qn))))))
      (zb (yn (zn zfB (hr.mono (by decide)) rfl (QA.pa (qc (pv 1) (qc (pv 0) qn)))))
      (zb (yn (zn zfZ (hr.mono (by decide)) rfl (QA.pa (qc (pv 1) (qc (zn zfA (hr.mono (by decide)) rfl (QA.pa (qc (zh (zm hr) (pv 0) ze (fun _ _ => rfl)) qn))) qn)))))
      (zb (yG (ym vL (zh (zm hr) (pv 0) ze (fun _ _ => rfl)) xt (zN _)) (zb (yn (zn zgc (hr.mono (by decide)) rfl (QA.pa (qc (pv 1) (qc (zh (zm hr) (pv 0) ze (fun _ _ => rfl)) qn)))))
      (zf (yG (kX (xb (zh (zm hr) (pv 0) ze (fun _ _ => rfl)))) (zf (yn (zn zfB (hr.mono (by decide)) rfl (QA.pa (qc (pv 1) (qc (pv 0) qn)))))) yx))) yx)
      (zb (yn (zn zgl (hr.mono (by decide)) rfl (QA.pa (qc (pv 1) (qc (yO (qc zc qn)) (qc (zh (zm hr) (pv 0) ze (fun _ _ => rfl)) qn))))))
      (zb (yn (zn zgl (hr.mono (by decide)) rfl (QA.pa (qc (pv 1) (qc (yO (qc zc qn)) (qc (zh (zm hr) (pv 0) ze (fun _ _ => rfl)) qn))))))
      (zf (yl (pv 1))))))))))))))
  · walk_at "ref"
  rintro _ O R ⟨d, q, S, rfl, ho, hD, h⟩
  have hB := hD.b
  have hd := ho.d
  refine yp (fun ρ' O' => ∃ x dx p st kp, ρ' = [some (.own d), some (.own x), none, none] ∧ Both O' C x dx p st kp d q (st0 S.w S.h fun _ _ => xo 0) S ∧ (∀ b, b ≠ x → b ≠ p → b ≠ st → b ≠ kp → O b ≠ none → O' b = O b)) (fun R1 hR1 => ?_) ?_
  · walk_at "wd"
    simp [hd, and_assoc, zk, zP, zQ, yq, zR, zG, zy, zH, zS, zp, zT, zO, zU, yr, yt, zz, yu, zA, zV, yv, zW, zt, zX, yw, zB, zY, zI, zZ, zJ]
    intro x dx hx
    refine ⟨x, dx, S.w, S.h, rfl, zl, hB.w1, hB.w2, hB.h1, hB.h2, fun p st kp O' hp hst hkp hs hfr => ⟨rfl, ?_⟩⟩
    have fr : ∀ {a o}, O a = some o → O' a = some o ∧ a ≠ x ∧ a ≠ p ∧ a ≠ st ∧ a ≠ kp := fun {a o} ha => by
      have h1 : a ≠ x := neO ha hx
      have ha' : updO O x (.ins C dx []) a = some o := by rw [zg h1]; exact ha
      exact ⟨by rw [hfr a h1 (neO ha' hp) (neO ha' hst) (neO ha' hkp)]; exact ha', h1, neO ha' hp, neO ha' hst, neO ha' hkp⟩
    refine hR1 _ _ ⟨x, dx, p, st, kp, rfl, ⟨hs, ⟨(fr ho.d).1, (fr ho.q).1⟩, (fr ho.d).2.2.2.1, Ne.symm (fr ho.q).2.2.1⟩, fun b h1 h2 h3 h4 hb => ?_⟩
    rw [hfr b h1 h2 h3 h4, zg h1]
  rintro _ O1 ⟨x, dx, p, st, kp, rfl, hb1, hf1⟩
  have FR : ∀ {O2 : OM}, But O1 O2 x p → ∀ b, b ≠ x → b ≠ p → b ≠ st → b ≠ kp → O b ≠ none → O2 b = O b := fun k b h1 h2 h3 h4 hb => (k b h1 h2).trans (hf1 b h1 h2 h3 h4 hb)
  refine yp (fun ρ' O' => ∃ v2 v3, ρ' = [some (.own d), some (.own x), v2, v3] ∧ Both O' C x dx p st kp d q (st0 S.w S.h S.pic) S ∧ But O1 O' x p) (fun R1 hR1 => ?_) ?_
  · have hd1 := hb1.o.d
    have w2 := hB.w2
    have h2 := hB.h2
    walk_at "wd"
    simp [hd1, and_assoc, zk, zP, zQ, yq, zR, zG, zy, zH, zS, zp, zT, zO, zU, yr, yt, zz, yu, zA, zV, yv, zW, zt, zX, yw, zB, zY, zI, zZ, zJ]
    refine ⟨by omega, ?_⟩
    obtain ⟨N, hN⟩ : ∃ N : PF, N = fun a b => if a < S.h ∧ b < S.w then S.pic a b else xo 0 := ⟨_, rfl⟩
    refine xj.rng (f := fun i => (i : Int)) (fun i ρ O' => ∃ v2 v3, ρ = [some (.own d), some (.own x), v2, v3] ∧ Both O' C x dx p st kp d q (st0 S.w S.h (goP N (fun _ _ => xo 0) 0 0 i 0)) S ∧ But O1 O' x p) ⟨_, _, rfl, ?_, But.refl⟩ ?_ ?_
    · rw [qL (fun a b hab => by omega)]
      exact hb1
    · rintro i _ O2 hi ⟨v2, v3, rfl, hb2, hk2⟩ R2 hR2
      have hd2 := hb2.o.d
      walk_at "wd"
      simp [hd2, and_assoc, zk, zP, zQ, yq, zR, zG, zy, zH, zS, zp, zT, zO, zU, yr, yt, zz, yu, zA, zV, yv, zW, zt, zX, yw, zB, zY, zI, zZ, zJ]
      refine ⟨by omega, ?_⟩
      refine xj.rng (f := fun i => (i : Int)) (fun j ρ O' => ∃ v3, ρ = [some (.own d), some (.own x), some (.d (.int i)), v3] ∧ Both O' C x dx p st kp d q (st0 S.w S.h (goP N (fun _ _ => xo 0) 0 0 i j)) S ∧ But O1 O' x p) ⟨_, rfl, hb2, hk2⟩ ?_ ?_
      · rintro j _ O3 hj ⟨v3, rfl, hb3, hk3⟩ R3 hR3
        have hd3 := hb3.o.d
        have hx3 := hb3.s.x
        have e1 := y8 hb3.s.p
        rw [y7] at e1
        have e2 : ∀ y, atI ((List.range S.h).map (W.row y)) (i : Int) = some (W.row y i) := fun y => xf (by omega) (by omega)
        have e3 := y8 hb3.o.q
        rw [y7] at e3
        have e4 := vT hb3.o.q hi
        have e5 : atI ((List.range S.w).map fun j => W.d (yo (S.pic i j))) (j : Int) = some (.d (yo (S.pic i j))) := xf (by omega) (by omega)
        have e6 := vg (c := S.pic i j) hb3.s.p (i := i) (k := (j : Int)) hi (by omega) (by show (j : Int) < S.w; omega)
        have eN : N i j = S.pic i j := by rw [hN]; exact if_pos ⟨hi, hj⟩
        have e7 := uI (N := N) (f := fun _ _ => xo 0) (t := 0) (l := 0) (i := i) (j := j) (r := i) (c := j) (by omega) (by omega)
        rw [eN] at e7
        walk_at "wd"
        simp [hd3, hx3, st0, e1, e2, e3, e4, e5, e6, and_assoc, zk, zP, zQ, yq, zR, zG, zy, zH, zS, zp, zT, zO, zU, yr, yt, zz, yu, zA, zV, yv, zW, zt, zX, yw, zB, zY, zI, zZ, zJ, and_assoc, zk, T.st.cl, T.st.n_picture, T.st.n_wide, T.st.n_high, T.st.n_row, T.st.n_column, T.st.n_late, T.st.n_ink, T.st.n_wrap, T.st.n_putting, T.st.n_home, T.st.n_top, T.st.n_bottom, T.st.n_left, T.st.n_right, T.st.n_stops, T.st.n_kept, T.st.n_last, zu, z7, z9, yz, zC, ya, yA, yb, zv, yc, yB, zD, yd, zK, zL, ye, yf, yC, zE, yg, yD, yh, zw, yi, yE, zF, yj, zM, yk]
        rw [e7]
        exact hR3 _ _ ⟨_, rfl, hb3.st' (hb3.s.pic (f := goP N (fun _ _ => xo 0) 0 0 i (j + 1))) But.up, hk3.trans But.up⟩
      · rintro ρ O3 ⟨v3, rfl, hb3, hk3⟩
        rw [kd (fun a b h1 h2 => by rw [hN]; exact if_neg (by omega)) (fun a b h1 h2 => by omega)] at hb3
        exact hR2 _ _ ⟨_, _, rfl, hb3, hk3⟩
    · rintro ρ O2 ⟨v2, v3, rfl, hb2, hk2⟩
      rw [ke (fun a b h1 => by rw [hN]; exact if_neg (by omega))] at hb2
      refine hR1 _ _ ⟨_, _, rfl, ⟨?_, hb2.o, hb2.ds, hb2.pq⟩, hk2⟩
      exact StAt.picEq (S := st0 S.w S.h N) hb2.s fun i j hi hj => by rw [hN]; exact if_pos ⟨hi, hj⟩
  rintro _ O2 ⟨v2, v3, rfl, hb2, hk2⟩
  have d2 := hb2.o.d
  have t0 := hB.t0
  have tb := hB.tb
  have bb := hB.b1
  have l0 := hB.l0
  have lr := hB.lr
  have rr := hB.rr
  have w1 := hB.w1
  have w2 := hB.w2
  have h1' := hB.h1
  have h2' := hB.h2
  refine yp (fun ρ' O' => ρ' = [some (.own d), some (.own x), v2, v3] ∧ Both O' C x dx p st kp d q { st0 S.w S.h S.pic with top := S.top, bottom := S.bottom } S ∧ But O1 O' x p) (fun R1 hR1 => ?_) ?_
  · walk_at "wd"
    simp [d2, and_assoc, zk, zP, zQ, yq, zR, zG, zy, zH, zS, zp, zT, zO, zU, yr, yt, zz, yu, zA, zV, yv, zW, zt, zX, yw, zB, zY, zI, zZ, zJ]
    refine ⟨.int (S.top + 1), .int (S.bottom + 1), ⟨by omega, by omega⟩, ⟨by omega, by omega⟩, x, dx, p, st, kp, _, rfl, hb2.s, trivial, fun O' g1 g2 => ?_⟩
    rw [KW (S := st0 S.w S.h S.pic) t0 tb bb rfl w1] at g1
    exact hR1 _ _ ⟨rfl, hb2.st' g1 g2, hk2.trans g2⟩
  rintro _ O3 ⟨rfl, hb3, hk3⟩
  have d3 := hb3.o.d
  refine yp (fun ρ' O' => ρ' = [some (.own d), some (.own x), v2, v3] ∧ Both O' C x dx p st kp d q { st0 S.w S.h S.pic with top := S.top, bottom := S.bottom, left := S.left, right := S.right } S ∧ But O1 O' x p) (fun R1 hR1 => ?_) ?_
  · walk_at "wd"
    simp [d3, and_assoc, zk, zP, zQ, yq, zR, zG, zy, zH, zS, zp, zT, zO, zU, yr, yt, zz, yu, zA, zV, yv, zW, zt, zX, yw, zB, zY, zI, zZ, zJ]
    refine ⟨.int (S.left + 1), .int (S.right + 1), ⟨by omega, by omega⟩, ⟨by omega, by omega⟩, x, dx, p, st, kp, _, rfl, hb3.s, trivial, fun O' g1 g2 => ?_⟩
    rw [KY (S := { st0 S.w S.h S.pic with top := S.top, bottom := S.bottom }) l0 lr rr rfl h1'] at g1
    exact hR1 _ _ ⟨rfl, hb3.st' g1 g2, hk3.trans g2⟩
  rintro _ O4 ⟨rfl, hb4, hk4⟩
  have d4 := hb4.o.d
  refine yp (fun ρ' O' => ∃ r c, ρ' = [some (.own d), some (.own x), v2, v3] ∧ Both O' C x dx p st kp d q { st0 S.w S.h S.pic with top := S.top, bottom := S.bottom, left := S.left, right := S.right, home := S.home, row := r, col := c } S ∧ But O1 O' x p) (fun R1 hR1 => ?_) ?_
  · walk_at "wd"
    simp [d4, yM, and_assoc, zk, zP, zQ, yq, zR, zG, zy, zH, zS, zp, zT, zO, zU, yr, yt, zz, yu, zA, zV, yv, zW, zt, zX, yw, zB, zY, zI, zZ, zJ]
    refine ⟨3, S.home, x, dx, p, st, kp, _, rfl, hb4.s, trivial, fun O' g1 g2 => ?_⟩
    obtain ⟨r, c, e⟩ := @KZ S.home { st0 S.w S.h S.pic with top := S.top, bottom := S.bottom, left := S.left, right := S.right }
    rw [e] at g1
    exact hR1 _ _ ⟨r, c, rfl, hb4.st' g1 g2, hk4.trans g2⟩
  rintro _ O5 ⟨r, c, rfl, hb5, hk5⟩
  refine yp (fun ρ' O' => ρ' = [some (.own d), some (.own x), v2, v3] ∧ Both O' C x dx p st kp d q { st0 S.w S.h S.pic with top := S.top, bottom := S.bottom, left := S.left, right := S.right, home := S.home, row := S.row, col := S.col } S ∧ But O1 O' x p) (fun R1 hR1 => ?_) ?_
  · walk_at "wd"
    exact ⟨x, dx, p, st, kp, d, q, _, S, rfl, hb5, hB, hD.win, rfl, rfl, rfl, rfl, rfl, rfl, rfl, fun O' g1 g2 => hR1 _ _ ⟨rfl, g1, hk5.trans g2⟩⟩
  rintro _ O6 ⟨rfl, hb6, hk6⟩
  have d6 := hb6.o.d
  refine yp (fun ρ' O' => ρ' = [some (.own d), some (.own x), v2, v3] ∧ Both O' C x dx p st kp d q { S with late := false, wrap := true, putting := false, last := .none } S ∧ But O1 O' x p) (fun R1 hR1 => ?_) ?_
  · obtain ⟨k1, k2⟩ := XJ ⟨hB.i0, hB.i1⟩
    walk_at "wd"
    simp [d6, and_assoc, zk, zP, zQ, yq, zR, zG, zy, zH, zS, zp, zT, zO, zU, yr, yt, zz, yu, zA, zV, yv, zW, zt, zX, yw, zB, zY, zI, zZ, zJ]
    refine ⟨_, rfl, ⟨hB.i0, hB.i1⟩, _, k1, x, dx, p, st, kp, _, rfl, hb6.s, ⟨Int.le_refl 0, (by decide : (0 : Int) < 512)⟩, fun O' g1 g2 => ?_⟩
    unfold qK at g1
    rw [k2] at g1
    exact hR1 _ _ ⟨rfl, hb6.st' g1 g2, hk6.trans g2⟩
  rintro _ O7 ⟨rfl, hb7, hk7⟩
  have d7 := hb7.o.d
  have hB7 : Bds { S with late := false, wrap := true, putting := false, last := .none } := { hB with }
  refine yp (fun ρ' O' => ρ' = [some (.own d), some (.own x), v2, v3] ∧ Both O' C x dx p st kp d q { S with wrap := true, putting := false } S ∧ But O1 O' x p) (fun R1 hR1 => ?_) ?_
  · walk_at "wd"
    simp [d7, and_assoc, zk, zP, zQ, yq, zR, zG, zy, zH, zS, zp, zT, zO, zU, yr, yt, zz, yu, zA, zV, yv, zW, zt, zX, yw, zB, zY, zI, zZ, zJ]
    rcases hD.last with e | ⟨c, e, hc⟩
    · have el : S.late = false := by
        cases hl : S.late with
        | false => rfl
        | true => exact absurd e (hD.late hl).2
      simp [e, x9]
      refine hR1 _ _ ⟨rfl, ?_, hk7⟩
      have e2 : ({ S with late := false, wrap := true, putting := false, last := .none } : ST) = { S with wrap := true, putting := false } := by rw [← el, ← e]
      rw [← e2]
      exact hb7
    · simp [e, x9]
      refine ⟨c, x, dx, p, st, kp, _, rfl, hb7.s, hB7, fun O' g1 g2 => ?_⟩
      rw [K0 (S := { S with late := false, wrap := true, putting := false, last := .none }) rfl rfl hc] at g1
      have hb8 := hb7.st' g1 g2
      have d8 := hb8.o.d
      simp [d8, and_assoc, zk, zP, zQ, yq, zR, zG, zy, zH, zS, zp, zT, zO, zU, yr, yt, zz, yu, zA, zV, yv, zW, zt, zX, yw, zB, zY, zI, zZ, zJ]
      cases hl : S.late with
      | true =>
        simp
        have hcol := (hD.late hl).1
        rw [if_neg (by show ¬ S.col < eR S; omega)] at hb8
        refine hR1 _ _ ⟨rfl, ?_, hk7.trans g2⟩
        have e2 : ({ S with late := true, wrap := true, putting := false, last := .str c } : ST) = { S with wrap := true, putting := false } := by rw [← hl, ← e]
        rw [← e2]
        exact hb8
      | false =>
        simp
        have key : ∀ S8 : ST, Both O' C x dx p st kp d q S8 S → S8.w = S.w → S8.h = S.h → S8.home = S.home → S8.top = S.top → S8.bottom = S.bottom → S8.left = S.left → S8.right = S.right → ({ S8 with row := S.row, col := S.col, late := false } : ST) = { S with wrap := true, putting := false } → sGo C [.own x, .own d] O' fun _ O1 => R1 [some (.own d), some (.own x), v2, v3] O1 := fun S8 hb a1 a2 a3 a4 a5 a6 a7 a8 =>
          ⟨x, dx, p, st, kp, d, q, S8, S, rfl, hb, hB, hD.win, a1, a2, a3, a4, a5, a6, a7, fun O'' g3 g4 => hR1 _ _ ⟨rfl, by rw [← a8]; exact g3, (hk7.trans g2).trans g4⟩⟩
        split at hb8
        · exact key _ hb8 rfl rfl rfl rfl rfl rfl rfl (by show ({ S with late := false, wrap := true, putting := false, last := .str c } : ST) = _; rw [← hl, ← e])
        · exact key _ hb8 rfl rfl rfl rfl rfl rfl rfl (by show ({ S with late := false, wrap := true, putting := false, last := .str c } : ST) = _; rw [← hl, ← e])
  rintro _ O8 ⟨rfl, hb8, hk8⟩
  have d8 := hb8.o.d
  refine yp (fun ρ' O' => ρ' = [some (.own d), some (.own x), v2, v3] ∧ Both O' C x dx p st kp d q { S with putting := false } S ∧ But O1 O' x p) (fun R1 hR1 => ?_) ?_
  · walk_at "wd"
    simp [d8, yM, and_assoc, zk, zP, zQ, yq, zR, zG, zy, zH, zS, zp, zT, zO, zU, yr, yt, zz, yu, zA, zV, yv, zW, zt, zX, yw, zB, zY, zI, zZ, zJ]
    exact ⟨1, S.wrap, x, dx, p, st, kp, _, rfl, hb8.s, trivial, fun O' g1 g2 => hR1 _ _ ⟨rfl, hb8.st' g1 g2, hk8.trans g2⟩⟩
  rintro _ O9 ⟨rfl, hb9, hk9⟩
  have d9 := hb9.o.d
  walk_at "wd"
  simp [d9, yM, and_assoc, zk, zP, zQ, yq, zR, zG, zy, zH, zS, zp, zT, zO, zU, yr, yt, zz, yu, zA, zV, yv, zW, zt, zX, yw, zB, zY, zI, zZ, zJ]
  exact ⟨2, S.putting, x, dx, p, st, kp, _, rfl, hb9.s, trivial, fun O' g1 g2 => .inl (h x dx p st kp O' (hb9.st' g1 g2) (FR (hk9.trans g2)))⟩
end
section
variable {P : Program} {w : World} {K : PySem.W.Frag} {mg : Str → Option Value} {base : Heap} {f C : Addr} {fd : FuncData}
theorem Yj (F : Fun K "_law_changed" "_law_changed" uc f fd) (T : Txt K mg C) (zfH : Cal P w K mg base 1 "_law_place" [] (zd K kh)) (zfJ : Cal P w K mg base 1 "_law_right_edge" [] (zd K jD))
    (zgl : Cal P w K mg base 5 "turn_modes" [] (zd K (Zv C))) (zfB : Cal P w K mg base 4 "_law_go_there" [] (zd K (sGo C))) (zfZ : Cal P w K mg base 4 "dye" [] (zd K (U6 C))) (zfA : Cal P w K mg base 1 "_law_dyes" [] (zd K Y0)) (zgc : Cal P w K mg base 5 "put_sign" [] (zd K (vW C))) :
    FnOk P w K mg base CX0 6 f fd ["_law_state_here", "_law_own", "_law_number"] (zd K (jI C)) := by
  apply F.okV ZH (by rintro _ _ _ ⟨x, dx, p, st, kp, d, q, S, n, rfl, _⟩; rfl) (fun cdv A outer sh H E hr => (zb (yn (zn zfH (hr.mono (by decide)) rfl (QA.pa (qc (pv 1) (qc (pv 2) qn)))))
      (zb (yH (zm hr) (pv 1) ze (zi yJ (zi yL (pv 2) zc) zc) rfl)
      (zb (yH (zm hr) (pv 1) ze (xu xB (zi yJ (zi yL (pv 2) zc) zc) zc (zN _)) rfl)
      (zb (yG (xb (zh (zm hr) (pv 1) ze (fun _ _ => rfl))) (zf (yH (zm hr) (pv 1) ze (zn zfJ (hr.mono (by decide)) rfl (QA.pa (qc (pv 1) qn))) rfl)) yx)
      (zb (yn (zn zfB (hr.mono (by decide)) rfl (QA.pa (qc (pv 0) (qc (pv 1) qn)))))
      (zb (yn (zn zfZ (hr.mono (by decide)) rfl (QA.pa (qc (pv 0) (qc (zn zfA (hr.mono (by decide)) rfl (QA.pa (qc (zh (zm hr) (pv 1) ze (fun _ _ => rfl)) qn))) qn)))))
      (zb (yG (xb (zh (zm hr) (pv 1) ze (fun _ _ => rfl))) (zb (yn (zn zgl (hr.mono (by decide)) rfl (QA.pa (qc (pv 0) (qc (yO (qc zc qn)) (qc xr qn))))))
      (zb (yn (zn zgc (hr.mono (by decide)) rfl (QA.pa (qc (pv 0) (qc ze qn)))))
      (zb (vc (yO (qc ze (qc (zh (zm hr) (pv 1) ze (fun _ _ => rfl)) qn))) (vC (yN (xa (K := K) rfl) (zh (zm hr) (pv 1) ze (fun _ _ => rfl)) (zh (zm hr) (pv 1) ze (fun _ _ => rfl)) (fun _ _ => rfl)) (zh (zm hr) (pv 1) ze (fun _ _ => rfl)) xT))
      (zf (yH (zm hr) (pv 1) ze ze rfl))))) yx)
      (zb (yH (zm hr) (pv 1) ze (xu k8 (zi yJ (zi yL (pv 2) zc) zc) zc (zN _)) rfl)
      (zb (yH (zm hr) (pv 1) ze (xu xB (zi yJ (zi yL (pv 2) zc) zc) zc (zN _)) rfl)
      (zb (yn (zn zgl (hr.mono (by decide)) rfl (QA.pa (qc (pv 0) (qc (yO (qc zc qn)) (qc (zh (zm hr) (pv 1) ze (fun _ _ => rfl)) qn))))))
      (zf (yn (zn zgl (hr.mono (by decide)) rfl (QA.pa (qc (pv 0) (qc (yO (qc zc qn)) (qc (zh (zm hr) (pv 1) ze (fun _ _ => rfl)) qn))))))))))))))))))
  · walk_at "ref"
  rintro _ O R ⟨x, dx, p, st, kp, d, q, S, n, rfl, hn, hb, hB, hP, h⟩
  refine yp (fun ρ' O' => ∃ r c, ρ' = [some (.own x), some (.own d), some (.d (.int n))] ∧ Both O' C x dx p st kp d q S { S with row := r, col := c } ∧ Bds { S with row := r, col := c } ∧ InWin { S with row := r, col := c }) (fun R1 hR1 => ?_) ?_
  · walk_at "wd"
    refine ⟨d, q, S, n, rfl, hn, .inl hb.o.d, hB.h1, hB.w1, ?_⟩
    rintro _ ⟨r, c, rfl⟩ hB'
    have hB' := hB' { hB with r0 := Int.le_refl 0, r1 := by have := hB.r0; have := hB.r1; simp only; omega, c0 := Int.le_refl 0, c1 := by have := hB.c0; have := hB.c1; simp only; omega }
    exact hR1 _ _ ⟨r, c, rfl, hb.ow' (hb.o.fld rfl rfl rfl) But.ux, hB'.1, hB'.2⟩
  rintro _ O1 ⟨r, c, rfl, hb1, hB1, hW1⟩
  refine yp (fun ρ' O' => ∃ ik, Ink ik ∧ ρ' = [some (.own x), some (.own d), some (.d (.int n))] ∧ Both O' C x dx p st kp d q S { S with row := r, col := c, ink := ik }) (fun R1 hR1 => ?_) ?_
  · have d1 := hb1.o.d
    walk_at "wd"
    simp [d1, xK, xm, and_assoc, zk, zP, zQ, yq, zR, zG, zy, zH, zS, zp, zT, zO, zU, yr, yt, zz, yu, zA, zV, yv, zW, zt, zX, yw, zB, zY, zI, zZ, zJ]
    exact hR1 _ _ ⟨_, ⟨by omega, by omega⟩, rfl, hb1.ow' (hb1.o.fld rfl rfl rfl) But.ux⟩
  rintro _ O2 ⟨ik, hik, rfl, hb2⟩
  refine yp (fun ρ' O' => ∃ lt, ρ' = [some (.own x), some (.own d), some (.d (.int n))] ∧ Both O' C x dx p st kp d q S { S with row := r, col := c, ink := ik, late := lt }) (fun R1 hR1 => ?_) ?_
  · have d2 := hb2.o.d
    walk_at "wd"
    simp [d2, xK, xm, and_assoc, zk, zP, zQ, yq, zR, zG, zy, zH, zS, zp, zT, zO, zU, yr, yt, zz, yu, zA, zV, yv, zW, zt, zX, yw, zB, zY, zI, zZ, zJ]
    exact hR1 _ _ ⟨_, rfl, hb2.ow' (hb2.o.fld rfl rfl rfl) But.ux⟩
  rintro _ O3 ⟨lt, rfl, hb3⟩
  have hB3 : Bds { S with row := r, col := c, ink := ik, late := lt } := { hB1 with i0 := hik.1, i1 := hik.2 }
  have hW3 : InWin { S with row := r, col := c, ink := ik, late := lt } := hW1
  refine yp (fun ρ' O' => ∃ c2, ρ' = [some (.own x), some (.own d), some (.d (.int n))] ∧ Both O' C x dx p st kp d q S { S with row := r, col := c2, ink := ik, late := lt } ∧ Bds { S with row := r, col := c2, ink := ik, late := lt } ∧ InWin { S with row := r, col := c2, ink := ik, late := lt } ∧ (lt = true → c2 = eR { S with row := r, col := c2, ink := ik, late := lt })) (fun R1 hR1 => ?_) ?_
  · have d3 := hb3.o.d
    walk_at "wd"
    simp [d3, and_assoc, zk, zP, zQ, yq, zR, zG, zy, zH, zS, zp, zT, zO, zU, yr, yt, zz, yu, zA, zV, yv, zW, zt, zX, yw, zB, zY, zI, zZ, zJ]
    cases lt with
    | false =>
      simp
      exact hR1 _ _ ⟨c, rfl, hb3, hB3, hW3, fun e => by cases e⟩
    | true =>
      simp
      refine ⟨d, q, _, rfl, d3, ?_⟩
      simp [d3, xm, and_assoc, zk, zP, zQ, yq, zR, zG, zy, zH, zS, zp, zT, zO, zU, yr, yt, zz, yu, zA, zV, yv, zW, zt, zX, yw, zB, zY, zI, zZ, zJ]
      have eR1 := qM hB3
      have c0 := hB3.c0
      simp only at c0 eR1
      refine hR1 _ _ ⟨eR { S with row := r, col := c, ink := ik, late := true }, rfl, hb3.ow' (hb3.o.fld rfl rfl rfl) But.ux, { hB3 with c0 := by simp only; omega, c1 := eR1.2 }, fun e => ?_, fun _ => (Ua hB3).symm⟩
      obtain ⟨w1, w2, w3, w4⟩ := hW3 e
      have e2 : eR { S with row := r, col := c, ink := ik, late := true } = S.right := by unfold eR; rw [if_pos w4]
      have := hB.lr
      exact ⟨w1, w2, by simp only; omega, by simp only; omega⟩
  rintro _ O4 ⟨c2, rfl, hb4, hB4, hW4, hE4⟩
  refine yp (fun ρ' O' => ρ' = [some (.own x), some (.own d), some (.d (.int n))] ∧ Both O' C x dx p st kp d q { S with row := r, col := c2, late := false } { S with row := r, col := c2, ink := ik, late := lt }) (fun R1 hR1 => ?_) ?_
  · walk_at "wd"
    exact ⟨x, dx, p, st, kp, d, q, S, _, rfl, hb4, hB4, hW4, rfl, rfl, rfl, rfl, rfl, rfl, rfl, fun O' g1 g2 => hR1 _ _ ⟨rfl, g1⟩⟩
  rintro _ O5 ⟨rfl, hb5⟩
  refine yp (fun ρ' O' => ρ' = [some (.own x), some (.own d), some (.d (.int n))] ∧ Both O' C x dx p st kp d q { S with row := r, col := c2, late := false, ink := ik } { S with row := r, col := c2, ink := ik, late := lt }) (fun R1 hR1 => ?_) ?_
  · obtain ⟨k1, k2⟩ := XJ hik
    have d5 := hb5.o.d
    walk_at "wd"
    simp [d5, and_assoc, zk, zP, zQ, yq, zR, zG, zy, zH, zS, zp, zT, zO, zU, yr, yt, zz, yu, zA, zV, yv, zW, zt, zX, yw, zB, zY, zI, zZ, zJ]
    refine ⟨_, rfl, hik, _, k1, x, dx, p, st, kp, _, rfl, hb5.s, ⟨hB.i0, hB.i1⟩, fun O' g1 g2 => ?_⟩
    unfold qK at g1
    rw [k2] at g1
    exact hR1 _ _ ⟨rfl, hb5.st' g1 g2⟩
  rintro _ O6 ⟨rfl, hb6⟩
  refine yp (fun ρ' O' => ∃ Z : ST, ρ' = [some (.own x), some (.own d), some (.d (.int n))] ∧ (∃ u, Both O' C x dx p st kp d q { Z with wrap := u } Z) ∧ Bds Z ∧ x8 Z) (fun R1 hR1 => ?_) ?_
  · have d6 := hb6.o.d
    walk_at "wd"
    simp [d6, and_assoc, zk, zP, zQ, yq, zR, zG, zy, zH, zS, zp, zT, zO, zU, yr, yt, zz, yu, zA, zV, yv, zW, zt, zX, yw, zB, zY, zI, zZ, zJ]
    cases lt with
    | false =>
      simp
      exact hR1 _ _ ⟨_, rfl, ⟨S.wrap, hb6⟩, hB4, hP⟩
    | true =>
      simp [yM]
      refine ⟨1, true, x, dx, p, st, kp, _, rfl, hb6.s, trivial, fun O' g1 g2 => ?_⟩
      have hb7 := hb6.st' g1 g2
      refine ⟨Str.ofString "w", x, dx, p, st, kp, _, rfl, hb7.s, { hB4 with }, fun O'' g3 g4 => ?_⟩
      have g3 : StAt O'' C x dx p st kp (vE (Str.ofString "w") { S with row := r, col := c2, late := false, ink := ik, wrap := true }) := g3
      rw [K1 (S := { S with row := r, col := c2, late := false, ink := ik, wrap := true }) { hB4 with } rfl (hE4 rfl)] at g3
      have hb8 := hb7.st' g3 g4
      have d8 := hb8.o.d
      have e1 := y8 hb8.o.q
      rw [y7] at e1
      have r0 := hB4.r0
      have r1 := hB4.r1
      simp only at r0 r1
      have e2 : atI ((List.range S.h).map (W.row q)) r = some (W.row q r.toNat) := xf r0 r1
      have e3 : u9 O'' (.row q r.toNat) c2 (.d (.tuple [.str (Str.ofString "w"), .int ik])) = _ := vg (c := (Str.ofString "w", ik)) hb8.o.q (by simp only; omega) hB4.c0 hB4.c1
      have hdq : d ≠ q := hb8.o.dq
      simp [d8, e1, e2, e3, yM, zg hdq, xm, and_assoc, zk, zP, zQ, yq, zR, zG, zy, zH, zS, zp, zT, zO, zU, yr, yt, zz, yu, zA, zV, yv, zW, zt, zX, yw, zB, zY, zI, zZ, zJ]
      have ho9 := hb8.o.pic (f := setF S.pic r.toNat c2.toNat (Str.ofString "w", ik))
      refine hR1 _ _ ⟨{ S with row := r, col := c2, ink := ik, late := true, pic := setF S.pic r.toNat c2.toNat (Str.ofString "w", ik), last := .str (Str.ofString "w") }, rfl, ⟨true, ?_⟩, { hB4 with }, ?_⟩
      · have ho10 := ho9.fld (S' := { S with row := r, col := c2, ink := ik, late := true, pic := setF S.pic r.toNat c2.toNat (Str.ofString "w", ik), last := .str (Str.ofString "w") }) rfl rfl rfl
        exact (hb8.ow' ho9 But.up).ow' ho10 But.ux
      · exact ⟨PicOk.set (S := { S with row := r, col := c2, ink := ik, late := true, last := .str (Str.ofString "w") }) hP.1 (by decide +kernel), .inr ⟨_, rfl, by decide +kernel⟩⟩
  rintro _ O7 ⟨Z, rfl, ⟨u, hb7⟩, hBZ, hPZ⟩
  refine yp (fun ρ' O' => ∃ wr, ρ' = [some (.own x), some (.own d), some (.d (.int n))] ∧ Both O' C x dx p st kp d q { Z with wrap := u } { Z with wrap := wr }) (fun R1 hR1 => ?_) ?_
  · have d7 := hb7.o.d
    walk_at "wd"
    simp [d7, xK, xm, and_assoc, zk, zP, zQ, yq, zR, zG, zy, zH, zS, zp, zT, zO, zU, yr, yt, zz, yu, zA, zV, yv, zW, zt, zX, yw, zB, zY, zI, zZ, zJ]
    exact hR1 _ _ ⟨_, rfl, hb7.ow' (hb7.o.fld rfl rfl rfl) But.ux⟩
  rintro _ O8 ⟨wr, rfl, hb8⟩
  refine yp (fun ρ' O' => ∃ pu, ρ' = [some (.own x), some (.own d), some (.d (.int n))] ∧ Both O' C x dx p st kp d q { Z with wrap := u } { Z with wrap := wr, putting := pu }) (fun R1 hR1 => ?_) ?_
  · have d8 := hb8.o.d
    walk_at "wd"
    simp [d8, xK, xm, and_assoc, zk, zP, zQ, yq, zR, zG, zy, zH, zS, zp, zT, zO, zU, yr, yt, zz, yu, zA, zV, yv, zW, zt, zX, yw, zB, zY, zI, zZ, zJ]
    exact hR1 _ _ ⟨_, rfl, hb8.ow' (hb8.o.fld rfl rfl rfl) But.ux⟩
  rintro _ O9 ⟨pu, rfl, hb9⟩
  refine yp (fun ρ' O' => ρ' = [some (.own x), some (.own d), some (.d (.int n))] ∧ Both O' C x dx p st kp d q { Z with wrap := wr } { Z with wrap := wr, putting := pu }) (fun R1 hR1 => ?_) ?_
  · have d9 := hb9.o.d
    walk_at "wd"
    simp [d9, yM, and_assoc, zk, zP, zQ, yq, zR, zG, zy, zH, zS, zp, zT, zO, zU, yr, yt, zz, yu, zA, zV, yv, zW, zt, zX, yw, zB, zY, zI, zZ, zJ]
    exact ⟨1, wr, x, dx, p, st, kp, _, rfl, hb9.s, trivial, fun O' g1 g2 => hR1 _ _ ⟨rfl, hb9.st' g1 g2⟩⟩
  rintro _ O10 ⟨rfl, hb10⟩
  have d10 := hb10.o.d
  walk_at "wd"
  simp [d10, yM, and_assoc, zk, zP, zQ, yq, zR, zG, zy, zH, zS, zp, zT, zO, zU, yr, yt, zz, yu, zA, zV, yv, zW, zt, zX, yw, zB, zY, zI, zZ, zJ]
  exact ⟨2, pu, x, dx, p, st, kp, _, rfl, hb10.s, trivial, fun O' g1 g2 => .inl (h { Z with wrap := wr, putting := pu } O' (hb10.st' g1 g2) { hBZ with } hPZ)⟩
theorem VI (F : Fun K "_law_most" "_law_most" qo f fd) (T : Txt K mg C) : FnOk P w K mg base CX0 1 f fd ["_law_own"] (zd K Qg) := by
  apply F.okV X7 (by rintro _ _ _ ⟨d, q, S, rfl, _⟩; rfl) (fun cdv A outer sh H E hr => (zf (yl (xz (ym k7 (zi x3 (zh (zm hr) (pv 0) ze (fun _ _ => rfl)) (zh (zm hr) (pv 0) ze (fun _ _ => rfl))) zc (zN _)) zc zc))))
  · walk_at "ref"
  rintro _ O R ⟨d, q, S, rfl, hd, hw, hh, h⟩
  walk_at "wd"
  simp [hd, and_assoc, zk, zP, zQ, yq, zR, zG, zy, zH, zS, zp, zT, zO, zU, yr, yt, zz, yu, zA, zV, yv, zW, zt, zX, yw, zB, zY, zI, zZ, zJ]
  refine ⟨mulL (by omega) (by omega), ?_⟩
  split
  · exact .inl (h 63 (by decide) (by decide))
  · exact .inl (h 20 (by decide) (by decide))
end
theorem zaQ {l : List W} : List.filterMap (fun _ : W => (none : Option PyData)) l = [] := by induction l with
  | nil => rfl
  | cons a l ih => rw [List.filterMap_cons]; exact ih
section
variable {P : Program} {w : World} {K : PySem.W.Frag} {mg : Str → Option Value} {base : Heap} {f C : Addr} {fd : FuncData}
theorem Vj (F : Fun K "_law_right" "_law_right" uS f fd) (T : Txt K mg C) : FnOk P w K mg base CX0 1 f fd ["_law_state_here", "_law_own"] (zd K (XO C)) := by
  have nd := jg.nd
  apply F.okV jg (by rintro _ _ _ ⟨x, dx, p, st, kp, d, q, S, rfl, _⟩; rfl) (fun cdv A outer sh H E hr => (zb (z0 (i := 2) nd rfl (Or.inl rfl) (xc (qc ze (qc ze (qc ze (qc ze (qc ze qn)))))))
      (zb (z0 (i := 3) nd rfl (Or.inl rfl) (xc (qc (zo (K := K) rfl (pv 0) rfl) (qc (zo (K := K) rfl (pv 0) rfl) (qc (zo (K := K) rfl (pv 0) rfl) (qc (zo (K := K) rfl (pv 0) rfl) (qc (zo (K := K) rfl (pv 0) rfl) qn)))))))
      (zb (z0 (i := 2) nd rfl (Or.inl rfl) (zi (Zd (K := K) rfl) (pv 2) (xc (qc ze (qc ze (qc ze (qc ze qn)))))))
      (zb (z0 (i := 3) nd rfl (Or.inl rfl) (zi (Zd (K := K) rfl) (pv 3) (xc (qc (zo (K := K) rfl (pv 0) rfl) (qc (zo (K := K) rfl (pv 0) rfl) (qc (zo (K := K) rfl (pv 0) rfl) (qc (zo (K := K) rfl (pv 0) rfl) qn)))))))
      (zb (yG (ym (uF (K := K) rfl hr.units) (pv 3) (uW (u7 (N := ["_law_name", "_law_own"]) (n := 1) (js := [1])) rfl (vS (K := K) rfl (pv 2)) (fun _ _ _ _ => (yI (i := 0) (show List.Nodup (["_law_name", "_law_own"] : List Str) by decide +kernel) rfl (Or.inl rfl))) (fun _ _ _ _ => vO) (fun _ _ _ _ => (zh (zm hr) (pv 1) (pv 0) (fun _ _ => rfl)))) (zN _)) (zf (yl xr)) yx)
      (zb (yG (ym (uF (K := K) rfl hr.units) (uW (u7 (N := ["_law_one"]) (n := 1) (js := [])) rfl (vS (K := K) rfl (pv 3)) (fun _ _ _ _ => (yI (i := 0) (show List.Nodup (["_law_one"] : List Str) by decide +kernel) rfl (Or.inl rfl))) (fun _ _ _ _ => (ZX (xb (yU (jA (K := K) rfl) (by rfl) T.n_isinstance (by rfl) (QA.pa (qc (pv 0) (qc (ZQ (v := .ty "bool") (u := .type "bool") rfl T.n_bool rfl rfl) qn))))))) (fun _ _ _ _ => (pv 0))) (xc qn) (zN _)) (zf (yl xr)) yx)
      (zb (z0 (i := 2) nd rfl (Or.inl rfl) (xc (qc ze (qc ze (qc ze (qc ze qn))))))
      (zb (z0 (i := 3) nd rfl (Or.inl rfl) (xc (qc (zo (K := K) rfl (pv 0) rfl) (qc (zo (K := K) rfl (pv 0) rfl) (qc (zo (K := K) rfl (pv 0) rfl) (qc (zo (K := K) rfl (pv 0) rfl) qn))))))
      (zb (yG (ym (uF (K := K) rfl hr.units) (uW (u7 (N := ["_law_one"]) (n := 1) (js := [])) rfl (vS (K := K) rfl (pv 3)) (fun _ _ _ _ => (yI (i := 0) (show List.Nodup (["_law_one"] : List Str) by decide +kernel) rfl (Or.inl rfl))) (fun _ _ _ _ => (ZX (PW.pt (jj (ym VW (pv 0) xr (zN _)) (qp (ym VW (pv 0) xr (zN _))))))) (fun _ _ _ _ => (pv 0))) (xc qn) (zN _)) (zf (yl xr)) yx)
      (zb (yG (PW.pt (kW (ym (uF (K := K) rfl hr.units) (pv 3) (uW (u7 (N := ["_law_name", "_law_own"]) (n := 1) (js := [1])) rfl (vS (K := K) rfl (pv 2)) (fun _ _ _ _ => (yI (i := 0) (show List.Nodup (["_law_name", "_law_own"] : List Str) by decide +kernel) rfl (Or.inl rfl))) (fun _ _ _ _ => vO) (fun _ _ _ _ => (zh (zm hr) (pv 1) (pv 0) (fun _ _ => rfl)))) (zN _)) (ji (ym (uF (K := K) rfl hr.units) (zo (K := K) rfl (pv 0) rfl) (zh (zm hr) (pv 1) ze (fun _ _ => rfl)) (zN _))))) (zf (yl xr)) yx)
      (zb (yG (PW.pt (kW (ym (uF (K := K) rfl hr.units) (zo (K := K) rfl (pv 0) rfl) (zh (zm hr) (pv 1) ze (fun _ _ => rfl)) (zN _)) (ji (ym (uF (K := K) rfl hr.units) (zo (K := K) rfl (pv 0) rfl) (xc qn) (zN _))))) (zf (yl xr)) yx)
      (zf (yl (xu (zde (K := K) rfl hr.units) (yU (zbR (K := K) rfl) (by rfl) T.n_sorted (by rfl) (QA.pa (qc (xQ (zdn rfl) (by rfl) T.n_list rfl (QA.pa (qc (zo (K := K) rfl (pv 0) rfl) qn))) qn))) (xQ (zdp rfl) (by rfl) T.n_list rfl (QA.pa (qc (zbQ rfl T.n_range (QA.pa (qc zc (qc (zh (zm hr) (pv 1) ze (fun _ _ => rfl)) (qc zc qn))))) qn))) (zN _))))))))))))))))
  · walk_at "ref"
  rintro _ O R ⟨x, dx, p, st, kp, d, q, S, rfl, hb, hB, hP, h⟩
  have hx := hb.s.x
  have hd := hb.o.d
  refine yp (fun ρ' O' => ρ' = [some (.own x), some (.own d), some (.d (.list [.str "wide", .str "high", .str "row", .str "column", .str "ink"])), none] ∧ O = O') (fun R1 hR1 => ?_) ?_
  · walk_at "wd"
    exact hR1 _ _ ⟨rfl, rfl⟩
  rintro _ _ ⟨rfl, rfl⟩
  refine kf (fun ρ' O' => ρ' = [some (.own x), some (.own d), some (.d (.list [.str "wide", .str "high", .str "row", .str "column", .str "ink", .str "top", .str "bottom", .str "left", .str "right"])), some (.d (.list ([(S.w : Int), S.h, S.row, S.col, S.ink, S.top, S.bottom, S.left, S.right].map .int)))] ∧ O = O') (fun R1 hR1 => ?_) ?_
  · walk_at "wd"
    simp [hx, yM, yR, and_assoc, zk, T.st.cl, T.st.n_picture, T.st.n_wide, T.st.n_high, T.st.n_row, T.st.n_column, T.st.n_late, T.st.n_ink, T.st.n_wrap, T.st.n_putting, T.st.n_home, T.st.n_top, T.st.n_bottom, T.st.n_left, T.st.n_right, T.st.n_stops, T.st.n_kept, T.st.n_last, zu, z7, z9, yz, zC, ya, yA, yb, zv, yc, yB, zD, yd, zK, zL, ye, yf, yC, zE, yg, yD, yh, zw, yi, yE, zF, yj, zM, yk]
    exact hR1 _ _ ⟨rfl, rfl⟩
  rintro _ _ ⟨rfl, rfl⟩
  have lL : SeqAt.shaped (.list ([(S.w : Int), S.h, S.row, S.col, S.ink, S.top, S.bottom, S.left, S.right].map .int)) = true := qd _
  have eL : PyData.eqv (.list ([(S.w : Int), S.h, S.row, S.col, S.ink, S.top, S.bottom, S.left, S.right].map .int)) (.list ([(S.w : Int), S.h, S.row, S.col, S.ink, S.top, S.bottom, S.left, S.right].map .int)) = true := XW _
  have fL : List.filterMap (Qk q S) ([.str "wide", .str "high", .str "row", .str "column", .str "ink", .str "top", .str "bottom", .str "left", .str "right"].map W.d) = [(S.w : Int), S.h, S.row, S.col, S.ink, S.top, S.bottom, S.left, S.right].map .int := rfl
  have mL : ∀ v ∈ [(S.w : Int), S.h, S.row, S.col, S.ink, S.top, S.bottom, S.left, S.right].map PyData.int, ∃ n, v = .int n := fun v hv => by obtain ⟨n, _, e⟩ := List.mem_map.1 hv; exact ⟨n, e.symm⟩
  have nL : ([(S.w : Int), S.h, S.row, S.col, S.ink, S.top, S.bottom, S.left, S.right].map PyData.int).length ≤ 1000 := by show (9 : Nat) ≤ 1000; decide
  generalize ([(S.w : Int), S.h, S.row, S.col, S.ink, S.top, S.bottom, S.left, S.right].map PyData.int) = L at lL eL fL mL nL ⊢
  refine yp (fun ρ' O' => ρ' = [some (.own x), some (.own d), some (.d (.list [.str "wide", .str "high", .str "row", .str "column", .str "ink", .str "top", .str "bottom", .str "left", .str "right"])), some (.d (.list L))] ∧ O = O') (fun R1 hR1 => ?_) ?_
  · walk_at "wd"
    refine ⟨_, rfl, by show (9 : Nat) ≤ 1000; decide, Qk q S, fun v hv us hu => ⟨hu, ?_, ?_⟩, _, rfl, _, rfl, lL, ?_⟩
    · obtain ⟨u, rfl⟩ := List.length_eq_one_iff.1 hu
      rfl
    · obtain ⟨u, rfl⟩ := List.length_eq_one_iff.1 hu
      simp only [List.map_cons, List.map_nil, List.mem_cons, List.not_mem_nil, or_false] at hv
      rcases hv with rfl | rfl | rfl | rfl | rfl | rfl | rfl | rfl | rfl <;> exact Exists.intro _ ⟨hd, _, rfl, rfl⟩
    · rw [fL, if_pos eL]
      exact ⟨lL, hR1 _ _ ⟨rfl, rfl⟩⟩
  rintro _ _ ⟨rfl, rfl⟩
  refine yp (fun ρ' O' => ρ' = [some (.own x), some (.own d), some (.d (.list [.str "wide", .str "high", .str "row", .str "column", .str "ink", .str "top", .str "bottom", .str "left", .str "right"])), some (.d (.list L))] ∧ O = O') (fun R1 hR1 => ?_) ?_
  · walk_at "wd"
    refine ⟨_, rfl, by simpa [yR] using nL, fun _ => none, fun v hv us hu => ⟨hu, ?_, ?_⟩, ?_⟩
    · obtain ⟨u, rfl⟩ := List.length_eq_one_iff.1 hu
      rfl
    · obtain ⟨u, rfl⟩ := List.length_eq_one_iff.1 hu
      obtain ⟨y, hy, rfl⟩ := List.mem_map.1 hv
      obtain ⟨n, rfl⟩ := mL y hy
      show ∃ d, _
      exact ⟨_, rfl, _, rfl, .inl ⟨rfl, rfl⟩⟩
    · rw [zaQ]
      exact ⟨_, rfl, _, rfl, rfl, rfl, by rw [if_pos (show PyData.eqv (.list []) (.list []) = true from rfl)]; exact hR1 _ _ ⟨rfl, rfl⟩⟩
  rintro _ _ ⟨rfl, rfl⟩
  refine yp (fun ρ' O' => ρ' = [some (.own x), some (.own d), some (.d (.list [.str "late", .str "wrap", .str "putting", .str "home"])), some (.d (.list L))] ∧ O = O') (fun R1 hR1 => ?_) ?_
  · walk_at "wd"
    exact hR1 _ _ ⟨rfl, rfl⟩
  rintro _ _ ⟨rfl, rfl⟩
  refine yp (fun ρ' O' => ρ' = [some (.own x), some (.own d), some (.d (.list [.str "late", .str "wrap", .str "putting", .str "home"])), some (.d (.list [.bool S.late, .bool S.wrap, .bool S.putting, .bool S.home]))] ∧ O = O') (fun R1 hR1 => ?_) ?_
  · walk_at "wd"
    simp [hx, yM, and_assoc, zk, T.st.cl, T.st.n_picture, T.st.n_wide, T.st.n_high, T.st.n_row, T.st.n_column, T.st.n_late, T.st.n_ink, T.st.n_wrap, T.st.n_putting, T.st.n_home, T.st.n_top, T.st.n_bottom, T.st.n_left, T.st.n_right, T.st.n_stops, T.st.n_kept, T.st.n_last, zu, z7, z9, yz, zC, ya, yA, yb, zv, yc, yB, zD, yd, zK, zL, ye, yf, yC, zE, yg, yD, yh, zw, yi, yE, zF, yj, zM, yk]
    exact hR1 _ _ ⟨rfl, rfl⟩
  rintro _ _ ⟨rfl, rfl⟩
  refine yp (fun ρ' O' => ρ' = [some (.own x), some (.own d), some (.d (.list [.str "late", .str "wrap", .str "putting", .str "home"])), some (.d (.list [.bool S.late, .bool S.wrap, .bool S.putting, .bool S.home]))] ∧ O = O') (fun R1 hR1 => ?_) ?_
  · walk_at "wd"
    refine ⟨_, rfl, by show (4 : Nat) ≤ 1000; decide, fun _ => none, fun v hv us hu => ⟨hu, ?_, ?_⟩, ?_⟩
    · obtain ⟨u, rfl⟩ := List.length_eq_one_iff.1 hu
      rfl
    · obtain ⟨u, rfl⟩ := List.length_eq_one_iff.1 hu
      have hv : ∃ b, v = W.d (.bool b) := by
        simp only [List.map_cons, List.map_nil, List.mem_cons, List.not_mem_nil, or_false] at hv
        rcases hv with rfl | rfl | rfl | rfl <;> exact ⟨_, rfl⟩
      obtain ⟨b, rfl⟩ := hv
      cases b
      · exact rfl
      · exact rfl
    · rw [zaQ]
      exact ⟨_, rfl, _, rfl, rfl, rfl, by rw [if_pos (show PyData.eqv (.list []) (.list []) = true from rfl)]; exact hR1 _ _ ⟨rfl, rfl⟩⟩
  rintro _ _ ⟨rfl, rfl⟩
  refine yp (fun ρ' O' => ρ' = [some (.own x), some (.own d), some (.d (.list [.str "late", .str "wrap", .str "putting", .str "home"])), some (.d (.list [.bool S.late, .bool S.wrap, .bool S.putting, .bool S.home]))] ∧ O = O') (fun R1 hR1 => ?_) ?_
  · walk_at "wd"
    refine ⟨_, rfl, by show (4 : Nat) ≤ 1000; decide, Qk q S, fun v hv us hu => ⟨hu, ?_, ?_⟩, _, rfl, _, rfl, ?_⟩
    · obtain ⟨u, rfl⟩ := List.length_eq_one_iff.1 hu
      rfl
    · obtain ⟨u, rfl⟩ := List.length_eq_one_iff.1 hu
      simp only [List.map_cons, List.map_nil, List.mem_cons, List.not_mem_nil, or_false] at hv
      rcases hv with rfl | rfl | rfl | rfl <;> exact Exists.intro _ ⟨hd, _, rfl, rfl⟩
    · have fB : List.filterMap (Qk q S) ([.str "late", .str "wrap", .str "putting", .str "home"].map W.d) = [.bool S.late, .bool S.wrap, .bool S.putting, .bool S.home] := rfl
      rw [fB]
      rw [if_pos (by simp [PyData.eqv, PyData.eqvAll])]
      refine ⟨rfl, rfl, ?_⟩
      simp [hx, hd, vy, hP.2.1, hP.2.2, and_assoc, zk, T.st.cl, T.st.n_picture, T.st.n_wide, T.st.n_high, T.st.n_row, T.st.n_column, T.st.n_late, T.st.n_ink, T.st.n_wrap, T.st.n_putting, T.st.n_home, T.st.n_top, T.st.n_bottom, T.st.n_left, T.st.n_right, T.st.n_stops, T.st.n_kept, T.st.n_last, zu, z7, z9, yz, zC, ya, yA, yb, zv, yc, yB, zD, yd, zK, zL, ye, yf, yC, zE, yg, yD, yh, zw, yi, yE, zF, yj, zM, yk, and_assoc, zk, zP, zQ, yq, zR, zG, zy, zH, zS, zp, zT, zO, zU, yr, yt, zz, yu, zA, zV, yv, zW, zt, zX, yw, zB, zY, zI, zZ, zJ]
      exact hR1 _ _ ⟨rfl, rfl⟩
  rintro _ _ ⟨rfl, rfl⟩
  refine yp (fun ρ' O' => ρ' = [some (.own x), some (.own d), some (.d (.list [.str "late", .str "wrap", .str "putting", .str "home"])), some (.d (.list [.bool S.late, .bool S.wrap, .bool S.putting, .bool S.home]))] ∧ O = O') (fun R1 hR1 => ?_) ?_
  · walk_at "wd"
    have g1 := Vt hP.1
    have g2 := K3 (h := S.h) (w := S.w) (f := S.pic)
    have e1 : vy O (.own p) = some (.list ((genG S.h S.w S.pic).map PyData.list)) := by simp [vy, hb.s.p]
    have e2 : vy O (.own q) = some (.list ((genG S.h S.w S.pic).map PyData.list)) := by simp [vy, hb.o.q]
    have e3 : vy O (.own kp) = some (.list []) := by simp [vy, yM, hb.s.kp]
    have e4 : vy O (.d (.list [])) = some (.list []) := rfl
    have e5 : SeqAt.shaped (.list []) = true := rfl
    have e6 : PyData.eqv (.list []) (.list []) = true := rfl
    simp [hx, hd, e1, e2, e3, e4, e5, e6, g1, g2, and_assoc, zk, T.st.cl, T.st.n_picture, T.st.n_wide, T.st.n_high, T.st.n_row, T.st.n_column, T.st.n_late, T.st.n_ink, T.st.n_wrap, T.st.n_putting, T.st.n_home, T.st.n_top, T.st.n_bottom, T.st.n_left, T.st.n_right, T.st.n_stops, T.st.n_kept, T.st.n_last, zu, z7, z9, yz, zC, ya, yA, yb, zv, yc, yB, zD, yd, zK, zL, ye, yf, yC, zE, yg, yD, yh, zw, yi, yE, zF, yj, zM, yk, and_assoc, zk, zP, zQ, yq, zR, zG, zy, zH, zS, zp, zT, zO, zU, yr, yt, zz, yu, zA, zV, yv, zW, zt, zX, yw, zB, zY, zI, zZ, zJ]
    exact hR1 _ _ ⟨rfl, rfl⟩
  rintro _ _ ⟨rfl, rfl⟩
  have hst := hb.s.st
  walk_at "wd"
  simp [hx, hd, hst, and_assoc, zk, T.st.cl, T.st.n_picture, T.st.n_wide, T.st.n_high, T.st.n_row, T.st.n_column, T.st.n_late, T.st.n_ink, T.st.n_wrap, T.st.n_putting, T.st.n_home, T.st.n_top, T.st.n_bottom, T.st.n_left, T.st.n_right, T.st.n_stops, T.st.n_kept, T.st.n_last, zu, z7, z9, yz, zC, ya, yA, yb, zv, yc, yB, zD, yd, zK, zL, ye, yf, yC, zE, yg, yD, yh, zw, yi, yE, zF, yj, zM, yk, and_assoc, zk, zP, zQ, yq, zR, zG, zy, zH, zS, zp, zT, zO, zU, yr, yt, zz, yu, zA, zV, yv, zW, zt, zX, yw, zB, zY, zI, zZ, zJ]
  have w2 := hB.w2
  have ln : (List.map (fun i : Nat => (4 + (i : Int) * 4)) (List.range ((S.w - 1) / 4))).length < 64 := by simp; omega
  refine ⟨List.map (fun i : Nat => (4 + (i : Int) * 4)) (List.range ((S.w - 1) / 4)), by rw [List.map_map]; rfl, ln, List.map (fun i : Nat => (4 + (i : Int) * 4)) (List.range ((S.w - 1) / 4)), ?_, ln, _, r3w hB.w1 hB.w2, by omega, _, rfl, _, rfl, qd _, ?_⟩
  · show some (List.map W.d (List.map PyData.int _)) = _
    rw [List.map_map]
  rw [Jv]
  have e : List.map (fun k : Nat => PyData.int (4 + (k : Int) * 4)) (List.range ((S.w - 1) / 4)) = List.map PyData.int (List.map (fun i : Nat => (4 + (i : Int) * 4)) (List.range ((S.w - 1) / 4))) := by rw [List.map_map]; rfl
  rw [e, XW]
  exact ⟨qd _, .inl h⟩
end
section
variable {P : Program} {w : World} {K : PySem.W.Frag} {mg : Str → Option Value} {base : Heap} {f C : Addr} {fd : FuncData}
theorem ZN (F : Fun K "_law_line_end" "_law_line_end" vH f fd) (T : Txt K mg C) (zfO : Cal P w K mg base 1 "_law_window" [] (zd K KQ)) (zfF : Cal P w K mg base 1 "_law_moved" [] (zd K Zy)) : FnOk P w K mg base CX0 2 f fd ["_law_own"] (zd K (K2 C)) := by
  have nd := uU.nd
  apply F.okV uU (by rintro _ _ _ ⟨x, dx, p, st, kp, d, q, S0, S, rfl, _⟩; rfl) (fun cdv A outer sh H E hr => (zb (yH (zm hr) (pv 0) ze xr rfl)
      (zb (yH (zm hr) (pv 0) ze (xz (ym Uq (zh (zm hr) (pv 0) ze (fun _ _ => rfl)) (zh (zm hr) (pv 0) ze (fun _ _ => rfl)) (zN _)) (zh (zm hr) (pv 0) ze (fun _ _ => rfl)) zc) rfl)
      (zf (yG (ym xB (zh (zm hr) (pv 0) ze (fun _ _ => rfl)) (zh (zm hr) (pv 0) ze (fun _ _ => rfl)) (zN _)) (zf (yn (zn zfF (hr.mono (by decide)) rfl (QA.pa (qc (pv 0) (qc (zn zfO (hr.mono (by decide)) rfl (QA.pa (qc (pv 0) qn))) (qc zc (qc zc qn)))))))) (zf (yH (zm hr) (pv 0) ze (yU (vd rfl) (by rfl) T.n_min (by rfl) (QA.pa (qc (zi yK (zh (zm hr) (pv 0) ze (fun _ _ => rfl)) zc) (qc (zi yX (zh (zm hr) (pv 0) ze (fun _ _ => rfl)) zc) qn)))) rfl)))))))
  · walk_at "ref"
  rintro _ O R ⟨x, dx, p, st, kp, d, q, S0, S, rfl, hb, hB, h⟩
  refine Y1 (fun ρ' O' => ρ' = [some (.own d)] ∧ Both O' C x dx p st kp d q S0 (uX S)) (fun R1 hR1 => ?_) ?_
  · have hd := hb.o.d
    have e : ∀ c, c = eL S → Both (updO O d (.dK (ownW q { S with late := false, col := c }))) C x dx p st kp d q S0 (uX S) := fun c hc => by
      rw [hc]
      exact hb.ow' (hb.o.fld (S' := uX S) rfl rfl rfl) But.ux
    walk_at "wd"
    simp [hd, xm, and_assoc, zk, zP, zQ, yq, zR, zG, zy, zH, zS, zp, zT, zO, zU, yr, yt, zz, yu, zA, zV, yv, zW, zt, zX, yw, zB, zY, zI, zZ, zJ]
    split
    · rename_i e1
      exact hR1 _ _ ⟨rfl, e _ (by unfold eL; rw [if_pos e1])⟩
    · rename_i e1
      exact hR1 _ _ ⟨rfl, e _ (by unfold eL; rw [if_neg e1])⟩
  rintro _ O1 ⟨rfl, hb1⟩
  have hB1 := hB.left
  have hd := hb1.o.d
  have t0 := hB1.t0
  have tb := hB1.tb
  have r1 := hB1.r1
  simp only [lineE] at h
  generalize uX S = S1 at *
  walk_at "wd"
  simp [hd, xm, and_assoc, zk, zP, zQ, yq, zR, zG, zy, zH, zS, zp, zT, zO, zU, yr, yt, zz, yu, zA, zV, yv, zW, zt, zX, yw, zB, zY, zI, zZ, zJ]
  split
  · rename_i e
    rw [if_pos e] at h
    exact ⟨d, q, S1, rfl, hd, d, q, S1, S1.top, S1.bottom, S1.left, S1.right, 1, 0, rfl, hb1.o, hB1, hB1.t0, hB1.tb, hB1.b1, hB1.l0, hB1.lr, hB1.rr, by decide, by decide, by decide, by decide, fun q' O' k1 k2 k3 => .inl (h q' O' (hb1.ow2 k2 k1 k3))⟩
  · rename_i e
    rw [if_neg e] at h
    refine .inl (h q _ ?_)
    split
    · rename_i e2
      rw [if_neg (by omega)]
      have e3 : (S1.h : Int) - 1 = S1.row := by omega
      rw [e3]
      exact hb1.ow' (hb1.o.fld (S' := S1) rfl rfl rfl) But.ux
    · rename_i e2
      rw [if_pos (by omega)]
      exact hb1.ow' (hb1.o.fld rfl rfl rfl) But.ux
end
local macro_rules | `(tactic| walk_at "refq") => `(tactic| repeat' (first
  | with_reducible apply kL | with_reducible apply jH | (with_reducible apply jF; with_reducible apply vp)
  | (with_reducible apply kQ; with_reducible apply kP; with_reducible apply jG; with_reducible apply kO; with_reducible apply vp)
  | with_reducible apply kN | with_reducible apply kM
  | (with_reducible apply vX; with_reducible apply qQ) | (with_reducible apply vX; with_reducible apply qR)
  | with_reducible apply Z9 | (walk_at "ref"; all_goals with_reducible exact XQ)))
local macro_rules | `(tactic| walk_at "wdq") => `(tactic| (walk_at "wd"; try simp [Y5, ZA, Qi, Y3, Y4, qP, qb, va, forR]; walk_at "wd"))
section
variable {P : Program} {w : World} {K : PySem.W.Frag} {mg : Str → Option Value} {base : Heap} {f C : Addr} {fd : FuncData}
theorem K6 (F : Fun K "again" "again" Yd f fd) (T : Txt K mg C) (zfQ : Cal P w K mg base 1 "at_least_one" [] (zd K kK)) (zgc : Cal P w K mg base 5 "put_sign" [] (zd K (vW C))) : FnOk P w K mg base CX0 6 f fd ["state", "many"] (zd K (ZB C)) := by
  have nd := X4.nd
  apply F.okV X4 (by rintro _ _ _ ⟨m, x, dx, p, st, kp, S, rfl, _⟩; rfl) (fun cdv A outer sh H E hr => (zf (yG (ym vL (zo (K := K) rfl (pv 0) rfl) xt (zN _)) (zf (xE PassesOwn.never rfl (xH rfl T.n_range (QA.pa (qc (zn zfQ (hr.mono (by decide)) rfl (QA.pa (qc (pv 1) qn))) qn))) (yI (i := 2) nd rfl (Or.inl rfl))
      (zf (yn (zn zgc (hr.mono (by decide)) rfl (QA.pa (qc (pv 0) (qc (zo (K := K) rfl (pv 0) rfl) qn)))))))) yx)))
  · walk_at "ref"
  rintro _ O R ⟨m, x, dx, p, st, kp, S, rfl, hm, hs, hB, hL, h⟩
  have hx := hs.x
  walk_at "wd"
  rcases hL with e | ⟨c, e, hc⟩
  · simp [hx, e, yQ, and_assoc, zk, T.st.cl, T.st.n_picture, T.st.n_wide, T.st.n_high, T.st.n_row, T.st.n_column, T.st.n_late, T.st.n_ink, T.st.n_wrap, T.st.n_putting, T.st.n_home, T.st.n_top, T.st.n_bottom, T.st.n_left, T.st.n_right, T.st.n_stops, T.st.n_kept, T.st.n_last, zu, z7, z9, yz, zC, ya, yA, yb, zv, yc, yB, zD, yd, zK, zL, ye, yf, yC, zE, yg, yD, yh, zw, yi, yE, zF, yj, zM, yk]
    exact .inl (h S O (fun _ => rfl) (fun c' e' => by rw [e] at e'; cases e') hs But.refl)
  · have m1 := Z6 (n := m)
    have m2 := Z7 hm
    simp [hx, e, yQ, and_assoc, zk, T.st.cl, T.st.n_picture, T.st.n_wide, T.st.n_high, T.st.n_row, T.st.n_column, T.st.n_late, T.st.n_ink, T.st.n_wrap, T.st.n_putting, T.st.n_home, T.st.n_top, T.st.n_bottom, T.st.n_left, T.st.n_right, T.st.n_stops, T.st.n_kept, T.st.n_last, zu, z7, z9, yz, zC, ya, yA, yb, zv, yc, yB, zD, yd, zK, zL, ye, yf, yC, zE, yg, yD, yh, zw, yi, yE, zF, yj, zM, yk]
    refine ⟨hm, by omega, by omega, ?_⟩
    refine xj.rng (f := fun i => (i : Int)) (fun i ρ O' => ∃ v2, ρ = [some (.own x), some (.d m), v2] ∧ StAt O' C x dx p st kp (itS c i S) ∧ But O O' x p) ⟨_, rfl, hs, But.refl⟩ ?_ ?_
    · rintro i _ O2 hi ⟨v2, rfl, hs2, b2⟩ R1 hR1
      have hx2 := hs2.x
      have e2 := kR e i
      walk_at "wd"
      simp [hx2, e2, yQ, and_assoc, zk, T.st.cl, T.st.n_picture, T.st.n_wide, T.st.n_high, T.st.n_row, T.st.n_column, T.st.n_late, T.st.n_ink, T.st.n_wrap, T.st.n_putting, T.st.n_home, T.st.n_top, T.st.n_bottom, T.st.n_left, T.st.n_right, T.st.n_stops, T.st.n_kept, T.st.n_last, zu, z7, z9, yz, zC, ya, yA, yb, zv, yc, yB, zD, yd, zK, zL, ye, yf, yC, zE, yg, yD, yh, zw, yi, yE, zF, yj, zM, yk]
      exact ⟨c, x, dx, p, st, kp, _, rfl, hs2, hB.it i, fun O' k1 k2 => hR1 _ _ ⟨_, rfl, k1, b2.trans k2⟩⟩
    · rintro _ O2 ⟨v2, rfl, hs2, b2⟩
      exact .inl (h _ O2 (fun e' => by rw [e] at e'; cases e') (fun c' e' => by rw [e] at e'; cases e'; rfl) hs2 b2)
theorem VJ (F : Fun K "_law_sign" "_law_sign" ql f fd) (T : Txt K mg C) (zfC : Cal P w K mg base 2 "_law_line_end" [] (zd K (K2 C))) (zfF : Cal P w K mg base 1 "_law_moved" [] (zd K Zy)) (zfJ : Cal P w K mg base 1 "_law_right_edge" [] (zd K jD)) : FnOk P w K mg base CX0 3 f fd ["_law_own", "_law_sign_here"] (xZ K (Zz C)) := by
  have nd := jT.nd
  apply F.okQ jT (by rintro _ _ _ ⟨x, dx, p, st, kp, d, q, S0, S, c, rfl, _⟩; rfl) (fun cdv A outer sh H E hr => (zb (yG (PW.pt (jj (xb (zh (zm hr) (pv 0) ze (fun _ _ => rfl))) (qp (xb (zh (zm hr) (pv 0) ze (fun _ _ => rfl)))))) (zf (yn (zn zfC (hr.mono (by decide)) rfl (QA.pa (qc (pv 0) qn))))) yx)
      (zb (z0 (i := 2) nd rfl (Or.inl rfl) (zn zfJ (hr.mono (by decide)) rfl (QA.pa (qc (pv 0) qn))))
      (zb (kZ (i := 3) (j := 4) rfl nd rfl rfl (by decide) rfl rfl (QA.pa (qc (zh (zm hr) (pv 0) ze (fun _ _ => rfl)) (qc (zh (zm hr) (pv 0) ze (fun _ _ => rfl)) qn))) rfl)
      (zb (yG (xb (zh (zm hr) (pv 0) ze (fun _ _ => rfl))) (zf (yn (zn zfF (hr.mono (by decide)) rfl (QA.pa (qc (pv 0) (qc (yO (qc (pv 3) (qc (pv 3) (qc (pv 4) (qc (pv 2) qn))))) (qc zc (qc (Ul QJ zc) qn)))))))) yx)
      (zb (z0 (i := 5) nd rfl (Or.inl rfl) (yN (xa (K := K) rfl) (zh (zm hr) (pv 0) ze (fun _ _ => rfl)) (pv 3) (fun _ _ => rfl)))
      (zb (vc (zi (zbU (K := K) rfl) (zi (Zd (K := K) rfl) (Xe (QV (K := K) rfl) (pv 5) VP (VQ (pv 4))) (xc (qc (yO (qc (pv 1) (qc (zh (zm hr) (pv 0) ze (fun _ _ => rfl)) qn))) qn))) (Xe (QV (K := K) rfl) (pv 5) (VQ (zi yK (pv 4) zc)) VP)) (vC (zh (zm hr) (pv 0) ze (fun _ _ => rfl)) (pv 3) xT))
      (zb (yH (zm hr) (pv 0) ze (jk (xu xB (pv 4) (pv 2) (zN _)) (kY (zh (zm hr) (pv 0) ze (fun _ _ => rfl)))) rfl)
      (zb (yH (zm hr) (pv 0) ze (yU (vd rfl) (by rfl) T.n_min (by rfl) (QA.pa (qc (zi yK (pv 4) zc) (qc (pv 2) qn)))) rfl)
      (zf (yH (zm hr) (pv 0) ze (pv 1) rfl)))))))))))
  · walk_at "refq"
  rintro _ O R ⟨x, dx, p, st, kp, d, q, S0, S, c, rfl, hb, hB, h⟩
  rw [vz] at h
  refine yp (fun ρ' O' => ∃ q', ρ' = [some (.own d), some (.d (.str c)), none, none, none, none] ∧ Both O' C x dx p st kp d q' S0 (pA S)) (fun R1 hR1 => ?_) ?_
  · have hd := hb.o.d
    walk_at "wd"
    simp [hd, and_assoc, zk, zP, zQ, yq, zR, zG, zy, zH, zS, zp, zT, zO, zU, yr, yt, zz, yu, zA, zV, yv, zW, zt, zX, yw, zB, zY, zI, zZ, zJ]
    by_cases e : S.late = true ∧ S.wrap = true
    · rw [pA, if_pos e] at hR1
      simp [e.1, e.2]
      exact ⟨x, dx, p, st, kp, d, q, S0, S, rfl, hb, hB, fun q' O' k => hR1 _ _ ⟨q', rfl, k⟩⟩
    · rw [pA, if_neg e] at hR1
      have := hR1 _ _ ⟨q, rfl, hb⟩
      cases hl : S.late <;> cases hw : S.wrap <;> simp [hl, hw] at e ⊢ <;> exact this
  rintro _ O1 ⟨q1, rfl, hb1⟩
  have hB1 : Bds (pA S) := hB.pA
  generalize pA S = S1 at *
  refine Y1 (fun ρ' O' => ρ' = [some (.own d), some (.d (.str c)), some (.d (.int (eR S1))), some (.d (.int S1.row)), some (.d (.int S1.col)), none] ∧ O1 = O') (fun R1 hR1 => ?_) ?_
  · have hd := hb1.o.d
    walk_at "wd"
    refine ⟨d, q1, _, rfl, hd, ?_⟩
    simp [hd, and_assoc, zk, zP, zQ, yq, zR, zG, zy, zH, zS, zp, zT, zO, zU, yr, yt, zz, yu, zA, zV, yv, zW, zt, zX, yw, zB, zY, zI, zZ, zJ]
    exact hR1 _ _ ⟨rfl, rfl⟩
  rintro _ _ ⟨rfl, rfl⟩
  have er1 := qM hB1
  refine yp (fun ρ' O' => ∃ q', ρ' = [some (.own d), some (.d (.str c)), some (.d (.int (eR S1))), some (.d (.int S1.row)), some (.d (.int S1.col)), none] ∧ Both O' C x dx p st kp d q' S0 { pC S1 with late := S1.late }) (fun R1 hR1 => ?_) ?_
  · have hd := hb1.o.d
    walk_at "wd"
    simp [hd, and_assoc, zk, zP, zQ, yq, zR, zG, zy, zH, zS, zp, zT, zO, zU, yr, yt, zz, yu, zA, zV, yv, zW, zt, zX, yw, zB, zY, zI, zZ, zJ]
    cases hl : S1.putting
    · rw [pC, hl, if_neg (by decide)] at hR1
      simp
      exact hR1 _ _ ⟨q1, rfl, hb1⟩
    · rw [pC, hl, if_pos rfl] at hR1
      simp
      exact ⟨d, q1, S1, S1.row, S1.row, S1.col, eR S1, 0, -1, rfl, hb1.o, hB1, hB1.r0, Int.le_refl _, hB1.r1, hB1.c0, er1.1, er1.2, by decide, by decide, by decide, by decide, fun q' O' k1 k2 k3 => hR1 _ _ ⟨q', rfl, hb1.ow2 k2 k1 k3⟩⟩
  rintro _ O2 ⟨q2, rfl, hb2⟩
  have hB2 : Bds (pC S1) := hB1.pC
  have e0 : pC (pB S1) = { pC S1 with late := false } := by
    unfold pC pB
    simp only
    split <;> rfl
  have f1 : eR (pC S1) = eR S1 := by
    unfold pC
    split <;> rfl
  have f2 : (pC S1).row = S1.row := by
    unfold pC
    split <;> rfl
  have f3 : (pC S1).col = S1.col := by
    unfold pC
    split <;> rfl
  rw [e0] at h
  rw [← f1, ← f2, ← f3]
  generalize hlt : S1.late = lt at hb2
  generalize pC S1 = S2 at *
  clear f1 f2 f3 e0 er1
  refine Y1 (fun ρ' O' => ρ' = [some (.own d), some (.d (.str c)), some (.d (.int (eR S2))), some (.d (.int S2.row)), some (.d (.int S2.col)), none] ∧ Both O' C x dx p st kp d q2 S0 { S2 with late := lt, pic := setF S2.pic S2.row.toNat S2.col.toNat (c, S2.ink) }) (fun R1 hR1 => ?_) ?_
  · have hd := hb2.o.d
    have r0 := hB2.r0
    have r1 := hB2.r1
    have c0 := hB2.c0
    have c1 := hB2.c1
    have e1 := y8 hb2.o.q
    rw [y7] at e1
    have e2 : atI ((List.range S2.h).map (W.row q2)) S2.row = some (W.row q2 S2.row.toNat) := xf hB2.r0 hB2.r1
    have e3 := vT hb2.o.q (i := S2.row.toNat) (by simp only; omega)
    walk_at "wdq"
    simp [hd, e1, e2, e3, yM, and_assoc, zk, zP, zQ, yq, zR, zG, zy, zH, zS, zp, zT, zO, zU, yr, yt, zz, yu, zA, zV, yv, zW, zt, zX, yw, zB, zY, zI, zZ, zJ]
    obtain ⟨ds, hds⟩ : ∃ ds, ds = (List.range S2.w).map fun j => yo (S2.pic S2.row.toNat j) := ⟨_, rfl⟩
    have dl : ds.length = S2.w := by rw [hds]; simp
    have w2 := hB2.w2
    have a1 : yM ((List.range S2.w).map fun j => W.d (yo (S2.pic S2.row.toNat j))) = some ds := by
      rw [show ((List.range S2.w).map fun j => W.d (yo (S2.pic S2.row.toNat j))) = ds.map W.d by rw [hds, List.map_map]; rfl]
      exact xV _
    have ct : qH ds none (some S2.col) = ds.take S2.col.toNat := by
      have := zd9 (ds := ds) (n := S2.col.toNat)
      rwa [Int.toNat_of_nonneg c0] at this
    have cf : qH ds (some (S2.col + 1)) none = ds.drop (S2.col.toNat + 1) := by
      rw [← zbW (ds := ds) (n := S2.col.toNat + 1), show (((S2.col.toNat + 1 : Nat)) : Int) = S2.col + 1 by omega]
    refine ⟨ds, a1, _, rfl, _, rfl, _, xV _, _, xV _, ?_, ds, a1, ?_⟩
    · rw [ct, List.length_take]
      simp
      omega
    rw [ct, cf]
    refine ⟨_, _, rfl, rfl, ?_, fun r hr => ?_⟩
    · simp only [List.length_map, List.length_append, List.length_take, List.length_drop, List.length_cons, List.length_nil]
      omega
    rw [← List.map_append, XT (by omega)]
    refine ⟨_, by rw [zg (neO hd hr)]; exact hd, _, rfl, r, rfl, q2, rfl, S2.row.toNat, genG S2.h S2.w S2.pic, ds.set S2.col.toNat (yo (c, S2.ink)), u5 _ x p st kp d q2 r, Ju, hb2.noR hr, ?_, ?_, ?_, ?_, hR1 _ _ ⟨rfl, ?_⟩⟩
    · rw [qS (by simp), zg (neO hb2.o.q hr)]
      exact hb2.o.q
    · rw [qS (by simp), zl]
      rfl
    · rw [y7, ixN, if_pos r0, if_pos r1]
    · rw [y7]; omega
    · refine hb2.swap hr (f := setF S2.pic S2.row.toNat S2.col.toNat (c, S2.ink)) ?_
      rw [hds]
      exact Xz (by omega)
  rintro _ O3 ⟨rfl, hb3⟩
  have er := qM hB2
  have hd := hb3.o.d
  walk_at "wd"
  simp [hd, xm, and_assoc, zk, zP, zQ, yq, zR, zG, zy, zH, zS, zp, zT, zO, zU, yr, yt, zz, yu, zA, zV, yv, zW, zt, zX, yw, zB, zY, zI, zZ, zJ]
  have T0 : ∀ (lt' : Bool) (cc : Int), lt' = (if S2.col < eR S2 then false else S2.wrap) → cc = (if S2.col < eR S2 then S2.col + 1 else S2.col) → Both (updO O3 d (.dK (ownW q2 { S2 with col := cc, late := lt', last := .str c, pic := setF S2.pic S2.row.toNat S2.col.toNat (c, S2.ink) }))) C x dx p st kp d q2 S0 (pF (pE c (pD c { S2 with late := false }))) := by
    rintro _ _ rfl rfl
    have e : pF (pE c (pD c { S2 with late := false })) = { S2 with col := (if S2.col < eR S2 then S2.col + 1 else S2.col), late := (if S2.col < eR S2 then false else S2.wrap), last := .str c, pic := setF S2.pic S2.row.toNat S2.col.toNat (c, S2.ink) } := by
      by_cases hc : S2.col < eR S2
      · rw [if_pos hc, if_pos hc]
        exact if_pos hc
      · rw [if_neg hc, if_neg hc]
        exact if_neg hc
    rw [e]
    exact hb3.ow' (hb3.o.fld rfl rfl rfl) But.ux
  have f2 : (if eR S2 < S2.col + 1 then eR S2 else S2.col + 1) = (if S2.col < eR S2 then S2.col + 1 else S2.col) := by split <;> split <;> omega
  split
  · rename_i e
    exact .inl (h q2 _ (T0 _ _ (by rw [if_neg (by omega)]) f2))
  · rename_i e
    exact .inl (h q2 _ (T0 _ _ (by rw [if_pos (by omega)]) f2))
end
local macro_rules | `(tactic| walk_at "refq") => `(tactic| repeat' (first
  | with_reducible apply kL | with_reducible apply jH | (with_reducible apply jF; with_reducible apply vp)
  | (with_reducible apply kQ; with_reducible apply kP; with_reducible apply jG; with_reducible apply kO; with_reducible apply vp)
  | with_reducible apply kN | with_reducible apply kM
  | (with_reducible apply vX; with_reducible apply qQ) | (with_reducible apply vX; with_reducible apply qR)
  | with_reducible apply Z9 | (walk_at "ref"; all_goals with_reducible exact XQ)))
local macro_rules | `(tactic| walk_at "wdq") => `(tactic| (walk_at "wd"; try simp [Y5, ZA, Qi, Y3, Y4, qP, qb, va, forR]; walk_at "wd"))
section
variable {P : Program} {w : World} {K : PySem.W.Frag} {mg : Str → Option Value} {base : Heap} {f C : Addr} {fd : FuncData}
seal L2.PE L2.PS L2.PSs L2.PT L2.PA in
theorem VL (F : Fun K "_law_deed" "_law_deed" qm f fd) (T : Txt K mg C) (zfx : Cal P w K mg base 6 "_law_changed" [] (zd K (jI C))) (zfN : Cal P w K mg base 1 "_law_times" [] (zd K Zq)) (zfK : Cal P w K mg base 3 "_law_sign" [] (xZ K (Zz C))) (zfP : Cal P w K mg base 6 "again" [] (zd K (ZB C))) (zgc : Cal P w K mg base 5 "put_sign" [] (zd K (vW C))) : FnOk P w K mg base CX0 7 f fd ["_law_state_here", "_law_own", "_law_number"] (xZ K (XS C)) := by
  have nd := jU.nd
  apply F.okQ jU (by rintro _ _ _ ⟨x, dx, p, st, kp, d, q, S, n, rfl, _⟩; rfl) (fun cdv A outer sh H E hr => (zb (z0 (i := 3) nd rfl (Or.inl rfl) ze)
      (zb (z0 (i := 4) nd rfl (Or.inl rfl) (zi yJ (pv 2) zc))
      (zb (z0 (i := 5) nd rfl (Or.inl rfl) (zi yL (pv 2) zc))
      (zb (yG (ym xB (pv 4) zc (zN _)) (zb (yn (zn zfx (hr.mono (by decide)) rfl (QA.pa (qc (pv 0) (qc (pv 1) (qc (pv 5) qn))))))
      (zf (yl xr))) yx)
      (zb (yG (ym xB (pv 4) zc (zN _)) (zb (z0 (i := 6) nd rfl (Or.inl rfl) (yN (xa (K := K) rfl) (zbh rfl) (zi yJ (pv 5) zc) (fun _ _ => rfl)))
      (zb (xE PassesOwn.never rfl (xH rfl T.n_range (QA.pa (qc (zi x3 (zn zfN (hr.mono (by decide)) rfl (QA.pa (qc (pv 6) qn))) (xQ QK (by rfl) T.n_int rfl (QA.pa (qc (xu vL (zh (zm hr) (pv 1) ze (fun _ _ => rfl)) xt (zN _)) qn)))) qn))) (yI (i := 7) nd rfl (Or.inl rfl))
      (zf (yn (zn zfK (hr.mono (by decide)) rfl (QA.pa (qc (pv 1) (qc (zh (zm hr) (pv 1) ze (fun _ _ => rfl)) qn)))))))
      (zf (yl (xu jn (zn zfP (hr.mono (by decide)) rfl (QA.pa (qc (pv 0) (qc (pv 6) qn)))) xt (zN _)))))) yx)
      (zb (z0 (i := 8) nd rfl (Or.inl rfl) (yN QQ (pv 3) (zi yJ (pv 5) (yU jr (by rfl) T.n_len (by rfl) (QA.pa (qc (pv 3) qn)))) (fun _ _ => rfl)))
      (zb (yn (zn zfK (hr.mono (by decide)) rfl (QA.pa (qc (pv 1) (qc (pv 8) qn)))))
      (zf (yl (xu jn (zn zgc (hr.mono (by decide)) rfl (QA.pa (qc (pv 0) (qc (pv 8) qn)))) xt (zN _))))))))))))
  · walk_at "refq"
  rintro _ O R ⟨x, dx, p, st, kp, d, q, S, n, rfl, hn, hb, hB, hP, h⟩
  refine kf (fun ρ' O' => ρ' = [some (.own x), some (.own d), some (.d (.int n)), some (.d (.str zsK)), some (.d (.int (n % 8))), some (.d (.int (n / 8))), none, none, none] ∧ O = O') (fun R1 hR1 => ?_) ?_
  · walk_at "wd"
    exact ⟨⟨by decide, by decide⟩, hR1 _ _ ⟨rfl, rfl⟩⟩
  rintro _ _ ⟨rfl, rfl⟩
  have k0 : 0 ≤ n / 8 := by omega
  generalize n / 8 = k at k0
  generalize n % 8 = y
  refine yp (fun ρ' O' => ρ' = [some (.own x), some (.own d), some (.d (.int n)), some (.d (.str zsK)), some (.d (.int y)), some (.d (.int k)), none, none, none] ∧ O = O') (fun R1 hR1 => ?_) ?_
  · walk_at "wd"
    split
    · exact ⟨x, dx, p, st, kp, d, q, S, k, rfl, k0, hb, hB, hP, fun S' O' k1 k2 k3 => .inl (h q S' O' k1 k2 k3)⟩
    · exact hR1 _ _ ⟨rfl, rfl⟩
  rintro _ _ ⟨rfl, rfl⟩
  refine yp (fun ρ' O' => ρ' = [some (.own x), some (.own d), some (.d (.int n)), some (.d (.str zsK)), some (.d (.int y)), some (.d (.int k)), none, none, none] ∧ O = O') (fun R1 hR1 => ?_) ?_
  · walk_at "wdq"
    split
    · obtain ⟨m, hm, em⟩ : ∃ m, xM m ∧ atI (List.map W.d [.none, .int 0, .int 1, .int 2, .int 3, .int 5, .int 9]) (k % 7) = some (.d m) := by
        have e : k % 7 = 0 ∨ k % 7 = 1 ∨ k % 7 = 2 ∨ k % 7 = 3 ∨ k % 7 = 4 ∨ k % 7 = 5 ∨ k % 7 = 6 := by omega
        rcases e with e | e | e | e | e | e | e <;> rw [e]
        · exact ⟨.none, trivial, rfl⟩
        · exact ⟨.int 0, ⟨by decide, by decide⟩, rfl⟩
        · exact ⟨.int 1, ⟨by decide, by decide⟩, rfl⟩
        · exact ⟨.int 2, ⟨by decide, by decide⟩, rfl⟩
        · exact ⟨.int 3, ⟨by decide, by decide⟩, rfl⟩
        · exact ⟨.int 5, ⟨by decide, by decide⟩, rfl⟩
        · exact ⟨.int 9, ⟨by decide, by decide⟩, rfl⟩
      refine ⟨_, rfl, _, em, m, rfl, hm, _, hb.o.d, _, zO, ?_⟩
      have m1 := Z6 (n := m)
      have m2 := Z7 hm
      have tm := KK hm
      rw [tm]
      rcases hP.2 with e | ⟨c, e, hc⟩
      · rw [e]
        refine ⟨0, .inl ⟨rfl, rfl⟩, mulL (by omega) (by omega), by omega, by omega, ?_⟩
        rw [Int.mul_zero]
        refine xj.rng (f := fun i => (i : Int)) (fun i ρ O' => ρ = [some (.own x), some (.own d), some (.d (.int n)), some (.d (.str zsK)), some (.d (.int y)), some (.d (.int k)), some (.d m), none, none] ∧ O' = O) ⟨rfl, rfl⟩ ?_ ?_
        · intro i ρ O' hi
          exact absurd hi (Nat.not_lt_zero _)
        · rintro _ _ ⟨rfl, rfl⟩
          walk_at "wd"
          exact ⟨m, x, dx, p, st, kp, S, rfl, hm, hb.s, hB, hP.2, fun S' O' h1 _ k1 k2 => .inl (h q S O' (by rw [h1 e] at k1; exact hb.st' k1 k2) hB hP)⟩
      · rw [e]
        refine ⟨1, .inr ⟨rfl, rfl⟩, mulL (by omega) (by omega), by omega, by omega, ?_⟩
        rw [Int.mul_one]
        refine xj.rng (f := fun i => (i : Int)) (fun i ρ O' => ∃ q' v7, qb v7 ∧ ρ = [some (.own x), some (.own d), some (.d (.int n)), some (.d (.str zsK)), some (.d (.int y)), some (.d (.int k)), some (.d m), v7, none] ∧ Both O' C x dx p st kp d q' S (itS c i S)) ⟨q, none, trivial, rfl, hb⟩ ?_ ?_
        · rintro i _ O2 hi ⟨q', v7, n7, rfl, hb2⟩ R2 hR2
          have hd2 := hb2.o.d
          have e2 := kR e i
          walk_at "wdq"
          simp [hd2, e2, and_assoc, zk, zP, zQ, yq, zR, zG, zy, zH, zS, zp, zT, zO, zU, yr, yt, zz, yu, zA, zV, yv, zW, zt, zX, yw, zB, zY, zI, zZ, zJ]
          exact ⟨x, dx, p, st, kp, d, q', S, _, c, rfl, hb2, hB.it i, fun q'' O' k1 => hR2 _ _ ⟨q'', some (.d _), trivial, rfl, k1⟩⟩
        · rintro _ O2 ⟨q', v7, n7, rfl, hb2⟩
          walk_at "wd"
          exact ⟨m, x, dx, p, st, kp, S, rfl, hm, hb2.s, hB, hP.2, fun S' O' _ h2 k1 k2 => .inl (h q' _ O' (by rw [h2 c e] at k1; exact hb2.st' k1 k2) (hB.it _) (hP.it hB hc _))⟩
    · exact hR1 _ _ ⟨rfl, rfl⟩
  rintro _ _ ⟨rfl, rfl⟩
  have k2 : 0 ≤ k % 54 := by omega
  have k3 : k % 54 < 54 := by omega
  obtain ⟨c, c1, c2⟩ := zdu k2 k3
  walk_at "wdq"
  refine ⟨XU, by rw [Ub]; decide, XU, c, by rw [Ub]; exact c1, ?_⟩
  exact ⟨x, dx, p, st, kp, d, q, S, S, _, rfl, hb, hB, fun q' O' k1 => ⟨_, x, dx, p, st, kp, S, rfl, k1.s, hB, fun O2 j1 j2 => .inl (h q' _ O2 (k1.st' j1 j2) hB.put (hP.put hB c2))⟩⟩
end
local macro_rules | `(tactic| walk_at "refq") => `(tactic| repeat' (first
  | with_reducible apply kL | with_reducible apply jH | (with_reducible apply jF; with_reducible apply vp)
  | (with_reducible apply kQ; with_reducible apply kP; with_reducible apply jG; with_reducible apply kO; with_reducible apply vp)
  | with_reducible apply kN | with_reducible apply kM
  | (with_reducible apply vX; with_reducible apply qQ) | (with_reducible apply vX; with_reducible apply qR)
  | with_reducible apply Z9 | (walk_at "ref"; all_goals with_reducible exact XQ)))
local macro_rules | `(tactic| walk_at "wdq") => `(tactic| (walk_at "wd"; try simp [Y5, ZA, Qi, Y3, Y4, qP, qb, va, forR]; walk_at "wd"))
section
variable {P : Program} {w : World} {K : PySem.W.Frag} {mg : Str → Option Value} {base : Heap} {f C : Addr} {fd : FuncData}
seal L2.PE L2.PS L2.PSs L2.PT L2.PA in
theorem zdw (F : Fun K "law" "law" Qs f fd) (T : Txt K mg C) (zfG : Cal P w K mg base 3 "_law_own_by" [] (zd K XM)) (zfM : Cal P w K mg base 6 "_law_state" [] (zd K (XN C))) (zfE : Cal P w K mg base 1 "_law_most" [] (zd K Qg)) (zfD : Cal P w K mg base 1 "_law_mixed" [] (zd K uG))
    (zfy : Cal P w K mg base 7 "_law_deed" [] (xZ K (XS C))) (zfI : Cal P w K mg base 1 "_law_right" [] (zd K (XO C))) (zfw : Cal P w K mg base 1 "_law_cell_at" [] (zd K qt)) (zfK : Cal P w K mg base 3 "_law_sign" [] (xZ K (Zz C))) (zfP : Cal P w K mg base 6 "again" [] (zd K (ZB C))) : FnOk P w K mg base CX0 8 f fd ["_law_script"] (xZ K sLaw) := by
  have nd := Jz.nd
  apply F.okQ Jz (by rintro _ _ _ ⟨ns, rfl, _⟩; rfl) (fun cdv A outer sh H E hr => (zb (z0 (i := 1) nd rfl (Or.inl rfl) (zn zfG (hr.mono (by decide)) rfl (QA.pa (qc (pv 0) qn))))
      (zb (z0 (i := 2) nd rfl (Or.inl rfl) (zn zfM (hr.mono (by decide)) rfl (QA.pa (qc (pv 1) qn))))
      (zb (xE PassesOwn.never rfl (vB rfl T.n_range (QA.pa (qc zc (qc (yU (vd rfl) (by rfl) T.n_min (by rfl) (QA.pa (qc (zn zfE (hr.mono (by decide)) rfl (QA.pa (qc (pv 1) qn))) (qc (yU (Jf (K := K) rfl) (by rfl) T.n_len (by rfl) (QA.pa (qc (pv 0) qn))) qn)))) qn)))) (yI (i := 3) nd rfl (Or.inl rfl))
      (zb (z0 (i := 4) nd rfl (Or.inl rfl) (zi yL (zn zfD (hr.mono (by decide)) rfl (QA.pa (qc (yN (xa (K := K) rfl) (pv 0) (pv 3) (fun _ _ => rfl)) (qc (pv 3) qn)))) zc))
      (zf (yG (PW.pt (kW (kX (xb (zn zfy (hr.mono (by decide)) rfl (QA.pa (qc (pv 2) (qc (pv 1) (qc (pv 4) qn))))))) (ji (kX (xb (zn zfI (hr.mono (by decide)) rfl (QA.pa (qc (pv 2) (qc (pv 1) qn))))))))) (zf (yl xr)) yx))))
      (zb (z0 (i := 5) nd rfl (Or.inl rfl) (jk (xu k7 (zi x3 (zh (zm hr) (pv 1) ze (fun _ _ => rfl)) (zh (zm hr) (pv 1) ze (fun _ _ => rfl))) zc (zN _)) (kY (xu vL (zh (zm hr) (pv 1) ze (fun _ _ => rfl)) xt (zN _)))))
      (zb (yG (PW.pt (jj (ym xB (zi yJ (zn zfw (hr.mono (by decide)) rfl (QA.pa (qc (pv 0) (qc zc qn)))) zc) zc (zN _)) (qp (xb (pv 5))))) (zb (xE PassesOwn.never rfl (xH rfl T.n_range (QA.pa (qc zc qn))) (yI (i := 6) nd rfl (Or.inl rfl))
      (zf (yn (zn zfK (hr.mono (by decide)) rfl (QA.pa (qc (pv 1) (qc (zh (zm hr) (pv 1) ze (fun _ _ => rfl)) qn)))))))
      (zf (yn (zn zfP (hr.mono (by decide)) rfl (QA.pa (qc (pv 2) (qc zc qn))))))) yx)
      (zf (yl (zn zfI (hr.mono (by decide)) rfl (QA.pa (qc (pv 2) (qc (pv 1) qn))))))))))))
  · walk_at "refq"
  rintro _ O R ⟨ns, rfl, hns, hlen, h⟩
  refine yp (fun ρ' O' => ∃ d q S, ρ' = [some (.d (.list (ns.map .int))), some (.own d), none, none, none, none, none] ∧ OwnAt O' d q S ∧ Drawn S) (fun R1 hR1 => ?_) ?_
  · walk_at "wd"
    exact ⟨ns, rfl, fun n hn => (hns n hn).mono (by decide), fun d q S O' _ _ ho hD _ => hR1 _ _ ⟨d, q, S, rfl, ho, hD⟩⟩
  rintro _ O1 ⟨d, q, S, rfl, ho, hD⟩
  refine yp (fun ρ' O' => ∃ x dx p st kp, ρ' = [some (.d (.list (ns.map .int))), some (.own d), some (.own x), none, none, none, none] ∧ Both O' C x dx p st kp d q S S) (fun R1 hR1 => ?_) ?_
  · walk_at "wd"
    exact ⟨d, q, S, rfl, ho, hD, fun x dx p st kp O' hb _ => hR1 _ _ ⟨x, dx, p, st, kp, rfl, hb⟩⟩
  rintro _ O2 ⟨x, dx, p, st, kp, rfl, hb⟩
  refine yp (fun ρ' O' => ∃ q' S' v3 v4, qb v3 ∧ qb v4 ∧ ρ' = [some (.d (.list (ns.map .int))), some (.own d), some (.own x), v3, v4, none, none] ∧ Both O' C x dx p st kp d q' S' S' ∧ Bds S' ∧ x8 S') (fun R1 hR1 => ?_) ?_
  · walk_at "wdq"
    refine ⟨d, q, S, rfl, hb.o.d, hD.b.w2, hD.b.h2, fun m m0 m1 => ?_⟩
    refine ⟨ns.length, by simp [UO, xA, yR], by split <;> omega, by split <;> omega, ?_⟩
    refine xj.rng (f := fun i => 4 + (i : Int)) (fun i ρ O' => ∃ q' S' v3 v4, qb v3 ∧ qb v4 ∧ ρ = [some (.d (.list (ns.map .int))), some (.own d), some (.own x), v3, v4, none, none] ∧ Both O' C x dx p st kp d q' S' S' ∧ Bds S' ∧ x8 S') ⟨q, S, none, none, trivial, trivial, rfl, hb, hD.b, hD.all2⟩ ?_ ?_
    · rintro i _ O3 hi ⟨q', S', v3, v4, n3, n4, rfl, hb3, hB3, hP3⟩ R1' hR1'
      have hi2 : 4 + i < ns.length := by split at hi <;> omega
      have i2 : 4 + (i : Int) ≤ 63 := by omega
      have e1 : yR O3 (.d (.list (ns.map .int))) = some ((ns.map PyData.int).map W.d) := rfl
      have e3 : atI ((ns.map PyData.int).map W.d) (4 + (i : Int)) = some (.d (.int ns[4 + i])) := by
        have := vN (xs := (ns.map PyData.int).map W.d) (j := 4 + i) (v := .d (.int ns[4 + i])) (by simp [hi2])
        rw [← this]
        congr 1
      have hc : Bt 1048600 ns[4 + i] := (hns _ (List.getElem_mem hi2)).mono (by decide)
      refine yp (fun ρ' O' => ∃ k, 0 ≤ k ∧ ρ' = [some (.d (.list (ns.map .int))), some (.own d), some (.own x), some (.d (.int (4 + (i : Int)))), some (.d (.int k)), none, none] ∧ O3 = O') (fun R2 hR2 => ?_) ?_
      · walk_at "wd"
        exact ⟨_, rfl, _, e3, _, rfl, by omega, by omega, hc, ⟨by decide, by decide⟩, hR2 _ _ ⟨_, Int.ediv_nonneg (qr _ _) (by decide), rfl, rfl⟩⟩
      rintro _ _ ⟨k, hk, rfl, rfl⟩
      walk_at "wdq"
      exact ⟨x, dx, p, st, kp, d, q', S', k, rfl, hk, hb3, hB3, hP3, fun q2 S3 O' k1 k2 k3 => ⟨x, dx, p, st, kp, d, q2, S3, rfl, k1, k2, k3.all, hR1' _ _ ⟨q2, S3, some (.d _), some (.d _), trivial, trivial, rfl, k1, k2, k3⟩⟩⟩
    · rintro _ O3 z
      exact hR1 _ _ z
  rintro _ O3 ⟨q', S', v3, v4, n3, n4, rfl, hb3, hB3, hP3⟩
  refine Y1 (fun ρ' O' => ∃ q' S' v5 v6, ρ' = [some (.d (.list (ns.map .int))), some (.own d), some (.own x), v3, v4, v5, v6] ∧ Both O' C x dx p st kp d q' S' S' ∧ Bds S' ∧ x8 S') (fun R1 hR1 => ?_) ?_
  · have hd := hb3.o.d
    walk_at "wdq"
    simp [hd, and_assoc, zk, zP, zQ, yq, zR, zG, zy, zH, zS, zp, zT, zO, zU, yr, yt, zz, yu, zA, zV, yv, zW, zt, zX, yw, zB, zY, zI, zZ, zJ]
    have w2 := hB3.w2
    have h2 := hB3.h2
    refine ⟨mulL (by omega) (by omega), ?_⟩
    have ex : ∀ v5 v6, R1 [some (.d (.list (ns.map .int))), some (.own d), some (.own x), v3, v4, v5, v6] O3 := fun v5 v6 => hR1 _ _ ⟨q', S', v5, v6, rfl, hb3, hB3, hP3⟩
    split
    · refine ⟨ns, rfl, 3, rfl, ?_⟩
      split
      · rcases hP3.2 with e | ⟨c, e, hc⟩
        · rw [e]
          exact ex _ _
        · rw [e]
          refine xj.rng (f := fun i => (i : Int)) (fun i ρ O' => ∃ q' v6, qb v6 ∧ ρ = [some (.d (.list (ns.map .int))), some (.own d), some (.own x), v3, v4, some (.d (.bool true)), v6] ∧ Both O' C x dx p st kp d q' S' (itS c i S')) ⟨q', none, trivial, rfl, hb3⟩ ?_ ?_
          · rintro i _ O4 hi ⟨q4, v6, n6, rfl, hb4⟩ R2 hR2
            have hd4 := hb4.o.d
            have e2 := kR e i
            walk_at "wdq"
            simp [hd4, e2, n3, n4, and_assoc, zk, zP, zQ, yq, zR, zG, zy, zH, zS, zp, zT, zO, zU, yr, yt, zz, yu, zA, zV, yv, zW, zt, zX, yw, zB, zY, zI, zZ, zJ]
            exact ⟨n3, n4, x, dx, p, st, kp, d, q4, S', _, c, rfl, hb4, hB3.it i, fun q'' O' k1 => hR2 _ _ ⟨q'', some (.d _), trivial, rfl, k1⟩⟩
          · rintro _ O4 ⟨q4, v6, n6, rfl, hb4⟩
            walk_at "wd"
            exact ⟨.int 999, x, dx, p, st, kp, S', rfl, ⟨by decide, by decide⟩, hb4.s, hB3, hP3.2, fun S4 O' _ h2 k1 k2 => hR1 _ _ ⟨q4, _, _, _, rfl, (by rw [h2 c e] at k1; exact hb4.st' k1 k2), hB3.it _, hP3.it hB3 hc _⟩⟩
      · exact ex _ _
    · exact ⟨⟨ns, rfl⟩, ⟨3, rfl⟩, ex _ _⟩
  rintro _ O4 ⟨q4, S4, v5, v6, rfl, hb4, hB4, hP4⟩
  walk_at "wd"
  exact ⟨x, dx, p, st, kp, d, q4, S4, rfl, hb4, hB4, hP4.all, .inl (h _)⟩
end
theorem fk {K : PySem.W.Frag} {h : Heap} {mg : Str → Option Value} {x : Str} {st : Stmt} {f : Addr} {oc kV doc pm cd ct : Value} {od an : Option Addr} {sl : Array (Option Value)} (X : K.In h) (G : h.Ns mainGlobals mg)
    (a : PySem.W.nsIn K mainGlobals x = some (some (.ref f))) (l : K.lookup f = some ⟨oc, od, .func (PySem.W.fnOf x x (defArgs st) (defBody st) (defScope st) .none kV doc pm an cd ct), sl⟩) (c : PySem.W.codeIn K cd x = true) (k : PySem.W.keepIn K (.ref f) = true) :
    ∃ f fd, Fun K x x st f fd ∧ mg x = some (.ref f) := ⟨f, _, Xi (st := st) l c k, PySem.W.mg_of X G a⟩
theorem fkD {K : PySem.W.Frag} {h : Heap} {mg : Str → Option Value} {x : Str} {st : Stmt} {f D : Addr} {oc kV doc pm cd ct : Value} {od an : Option Addr} {sl : Array (Option Value)} {oD : Obj} {ds : List Value} {n : Nat} (X : K.In h) (G : h.Ns mainGlobals mg)
    (a : PySem.W.nsIn K mainGlobals x = some (some (.ref f))) (l : K.lookup f = some ⟨oc, od, .func (PySem.W.fnOf x x (defArgs st) (defBody st) (defScope st) (.ref D) kV doc pm an cd ct), sl⟩) (c : PySem.W.codeIn K cd x = true) (k : PySem.W.keepIn K (.ref f) = true)
    (t : K.lookup D = some oD) (e : oD.data = .seq ds.toArray n) : ∃ f fd, FunD K x x st ds f fd ∧ mg x = some (.ref f) := ⟨f, _, ⟨⟨oc, od, kV, doc, pm, an, cd, ct, sl, D, oD, n, rfl, l, c, t, e⟩, k⟩, PySem.W.mg_of X G a⟩
theorem mk_State {K : PySem.W.Frag} {C f : Addr} {oc kV doc pm cd ct : Value} {od an : Option Addr} {sl : Array (Option Value)} (mk : PySem.W.makesIn K C = true) (a1 : PySem.W.findIn K (.ref C) "__init__" = some (some (.ref f))) (i1 : PySem.W.isFn K (.ref f) = true) (kc : PySem.W.keepIn K (.ref C) = true)
    (l : K.lookup f = some ⟨oc, od, .func (PySem.W.fnOf "__init__" "State.__init__" (defArgs yY) (defBody yY) (defScope yY) .none kV doc pm an cd ct), sl⟩) (c : PySem.W.codeIn K cd "State.__init__" = true) (k : PySem.W.keepIn K (.ref f) = true) :
    ∃ f fd, Mk K C f ∧ Fun K "__init__" "State.__init__" yY f fd := ⟨f, _, ⟨mk, a1, i1, kc⟩, Xi (st := yY) l c k⟩
theorem mt_begin {K : PySem.W.Frag} {C f : Addr} {oc kV doc pm cd ct : Value} {od an : Option Addr} {sl : Array (Option Value)} (a1 : PySem.W.findIn K (.ref C) "begin" = some (some (.ref f))) (i1 : PySem.W.isFn K (.ref f) = true)
    (l : K.lookup f = some ⟨oc, od, .func (PySem.W.fnOf "begin" "State.begin" (defArgs xq) (defBody xq) (defScope xq) .none kV doc pm an cd ct), sl⟩) (c : PySem.W.codeIn K cd "State.begin" = true) (k : PySem.W.keepIn K (.ref f) = true) :
    ∃ f fd, Meth K C "begin" f ∧ Fun K "begin" "State.begin" xq f fd := ⟨f, _, ⟨a1, i1, k⟩, Xi (st := xq) l c k⟩
theorem Vk {K : PySem.W.Frag} {f : Addr} {fd : FuncData} {d : Value} (F : FunD K "blank_row" "blank_row" vv [d] f fd) : Binds K fd ["wide", "ink"] [] :=
  F.binds fun T kV doc pm an cdv ct us hl => match us, hl with | [_, _], _ => ⟨_, rfl, rfl⟩
theorem YL {K : PySem.W.Frag} {f : Addr} {fd : FuncData} {d : Value} (F : FunD K "blank_row" "blank_row" vv [d] f fd) : Binds K fd ["wide", "ink"] [d] :=
  F.binds fun T kV doc pm an cdv ct us hl => by
    have h2 : us.length = 1 := by simpa using hl
    match us, h2 with
    | [_], _ => exact ⟨_, rfl, rfl⟩
theorem kU {K : PySem.W.Frag} {f : Addr} {fd : FuncData} {d : Value} (F : FunD K "blank_picture" "blank_picture" xJ [d] f fd) : Binds K fd ["wide", "high", "ink"] [] :=
  F.binds fun T kV doc pm an cdv ct us hl => match us, hl with | [_, _, _], _ => ⟨_, rfl, rfl⟩
theorem kl {K : PySem.W.Frag} {f : Addr} {fd : FuncData} {d : Value} (F : FunD K "blank_picture" "blank_picture" xJ [d] f fd) : Binds K fd ["wide", "high", "ink"] [d] :=
  F.binds fun T kV doc pm an cdv ct us hl => by
    have h2 : us.length = 2 := by simpa using hl
    match us, h2 with
    | [_, _], _ => exact ⟨_, rfl, rfl⟩
theorem JB {K : PySem.W.Frag} {f : Addr} {fd : FuncData} {d : Value} (F : FunD K "ink_of" "ink_of" uJ [d] f fd) : Binds K fd ["fore", "back", "marks"] [] :=
  F.binds fun T kV doc pm an cdv ct us hl => match us, hl with | [_, _, _], _ => ⟨_, rfl, rfl⟩
theorem Qz {K : PySem.W.Frag} {f : Addr} {fd : FuncData} {d : Value} (F : FunD K "ink_of" "ink_of" uJ [d] f fd) : Binds K fd ["fore", "back", "marks"] [d] :=
  F.binds fun T kV doc pm an cdv ct us hl => by
    have h2 : us.length = 2 := by simpa using hl
    match us, h2 with
    | [_, _], _ => exact ⟨_, rfl, rfl⟩
theorem all_mk {P : Program} {w : World} {K : PySem.W.Frag} {mg : Str → Option Value} {fa C : Addr} (T : Txt K mg C) (hfa : mg "law" = some (.ref fa)) (e_State : ∃ f fd, Mk K C f ∧ Fun K "__init__" "State.__init__" yY f fd) (e_begin : ∃ f fd, Meth K C "begin" f ∧ Fun K "begin" "State.begin" xq f fd)
    (zhk : ∃ f fd, Fun K "_law_cell_at" "_law_cell_at" ub f fd ∧ mg "_law_cell_at" = some (.ref f))
    (zhr : ∃ f fd, Fun K "_law_mixed" "_law_mixed" uM f fd ∧ mg "_law_mixed" = some (.ref f))
    (zhz : ∃ f fd, Fun K "_law_sizes" "_law_sizes" uN f fd ∧ mg "_law_sizes" = some (.ref f))
    (zhn : ∃ f fd, Fun K "_law_drawn_cells" "_law_drawn_cells" vj f fd ∧ mg "_law_drawn_cells" = some (.ref f))
    (zhv : ∃ f fd, Fun K "_law_place" "_law_place" uP f fd ∧ mg "_law_place" = some (.ref f))
    (zhx : ∃ f fd, Fun K "_law_right_edge" "_law_right_edge" vt f fd ∧ mg "_law_right_edge" = some (.ref f))
    (zhu : ∃ f fd, Fun K "_law_own_by" "_law_own_by" ul f fd ∧ mg "_law_own_by" = some (.ref f))
    (zhS : ∃ f fd, Fun K "is_whole" "is_whole" qT f fd ∧ mg "is_whole" = some (.ref f))
    (zhR : ∃ f fd, Fun K "is_size" "is_size" jM f fd ∧ mg "is_size" = some (.ref f))
    (zhO : ∃ f fd, Fun K "first_stops" "first_stops" uj f fd ∧ mg "first_stops" = some (.ref f))
    (zhE : ∃ f fd, Fun K "at_least_one" "at_least_one" v0 f fd ∧ mg "at_least_one" = some (.ref f))
    (zh3 : ∃ f fd, Fun K "span" "span" X5 f fd ∧ mg "span" = some (.ref f))
    (zhK : ∃ f fd, Fun K "counted" "counted" jN f fd ∧ mg "counted" = some (.ref f))
    (zh6 : ∃ f fd, Fun K "to_place" "to_place" qW f fd ∧ mg "to_place" = some (.ref f))
    (zh4 : ∃ f fd, Fun K "to_home" "to_home" jO f fd ∧ mg "to_home" = some (.ref f))
    (zh2 : ∃ f fd, Fun K "set_rows" "set_rows" qZ f fd ∧ mg "set_rows" = some (.ref f))
    (zh1 : ∃ f fd, Fun K "set_columns" "set_columns" uk f fd ∧ mg "set_columns" = some (.ref f))
    (zh7 : ∃ f fd, Fun K "turn_modes" "turn_modes" uL f fd ∧ mg "turn_modes" = some (.ref f))
    (zhp : ∃ f fd, Fun K "_law_go_there" "_law_go_there" vG f fd ∧ mg "_law_go_there" = some (.ref f))
    (zib : ∃ f fd, Fun K "with_mark" "with_mark" qg f fd ∧ mg "with_mark" = some (.ref f))
    (zic : ∃ f fd, Fun K "without_mark" "without_mark" vY f fd ∧ mg "without_mark" = some (.ref f))
    (zh8 : ∃ f fd, Fun K "turned_marks" "turned_marks" vZ f fd ∧ mg "turned_marks" = some (.ref f))
    (zhF : ∃ f fd, Fun K "back_of" "back_of" jL f fd ∧ mg "back_of" = some (.ref f))
    (zhV : ∃ f fd, Fun K "marks_of" "marks_of" qU f fd ∧ mg "marks_of" = some (.ref f))
    (zia : ∃ f fd, Fun K "with_fore" "with_fore" qe f fd ∧ mg "with_fore" = some (.ref f))
    (zhP : ∃ f fd, Fun K "fore_of" "fore_of" jK f fd ∧ mg "fore_of" = some (.ref f))
    (zh9 : ∃ f fd, Fun K "with_back" "with_back" qf f fd ∧ mg "with_back" = some (.ref f))
    (zhM : ∃ f fd, Fun K "dyed" "dyed" X6 f fd ∧ mg "dyed" = some (.ref f))
    (zhL : ∃ f fd, Fun K "dye" "dye" Qr f fd ∧ mg "dye" = some (.ref f))
    (zho : ∃ f fd, Fun K "_law_dyes" "_law_dyes" qj f fd ∧ mg "_law_dyes" = some (.ref f))
    (zhN : ∃ f fd, Fun K "edges" "edges" Yc f fd ∧ mg "edges" = some (.ref f))
    (zh5 : ∃ f fd, Fun K "to_left_edge" "to_left_edge" ua f fd ∧ mg "to_left_edge" = some (.ref f))
    (zhJ : ∃ f fd, Fun K "copied" "copied" kT f fd ∧ mg "copied" = some (.ref f))
    (zhG : ∃ f fd, Fun K "blank_of" "blank_of" qV f fd ∧ mg "blank_of" = some (.ref f))
    (zhZ : ∃ f fd, Fun K "roll_rows" "roll_rows" qh f fd ∧ mg "roll_rows" = some (.ref f))
    (zh0 : ∃ f fd, Fun K "roll_up" "roll_up" jQ f fd ∧ mg "roll_up" = some (.ref f))
    (zhU : ∃ f fd, Fun K "line_end" "line_end" qX f fd ∧ mg "line_end" = some (.ref f))
    (zhW : ∃ f fd, Fun K "move_cells" "move_cells" uK f fd ∧ mg "move_cells" = some (.ref f))
    (zhX : ∃ f fd, Fun K "put_cells" "put_cells" qi f fd ∧ mg "put_cells" = some (.ref f))
    (zhY : ∃ f fd, Fun K "put_sign" "put_sign" qY f fd ∧ mg "put_sign" = some (.ref f))
    (zhA : ∃ f fd, Fun K "_law_state" "_law_state" uR f fd ∧ mg "_law_state" = some (.ref f))
    (zhs : ∃ f fd, Fun K "_law_most" "_law_most" qo f fd ∧ mg "_law_most" = some (.ref f))
    (zhl : ∃ f fd, Fun K "_law_changed" "_law_changed" uc f fd ∧ mg "_law_changed" = some (.ref f))
    (zhB : ∃ f fd, Fun K "_law_times" "_law_times" uO f fd ∧ mg "_law_times" = some (.ref f))
    (zhC : ∃ f fd, Fun K "_law_window" "_law_window" um f fd ∧ mg "_law_window" = some (.ref f))
    (zht : ∃ f fd, Fun K "_law_moved" "_law_moved" uT f fd ∧ mg "_law_moved" = some (.ref f))
    (zhq : ∃ f fd, Fun K "_law_line_end" "_law_line_end" vH f fd ∧ mg "_law_line_end" = some (.ref f))
    (zhy : ∃ f fd, Fun K "_law_sign" "_law_sign" ql f fd ∧ mg "_law_sign" = some (.ref f))
    (zhD : ∃ f fd, Fun K "again" "again" Yd f fd ∧ mg "again" = some (.ref f))
    (zhm : ∃ f fd, Fun K "_law_deed" "_law_deed" qm f fd ∧ mg "_law_deed" = some (.ref f))
    (zhw : ∃ f fd, Fun K "_law_right" "_law_right" uS f fd ∧ mg "_law_right" = some (.ref f))
    (zhT : ∃ f fd, Fun K "law" "law" Qs f fd ∧ mg "law" = some (.ref f))
    (zhI : ∃ t f fd, FunD K "blank_row" "blank_row" vv [.int 0 t] f fd ∧ mg "blank_row" = some (.ref f))
    (zhH : ∃ t f fd, FunD K "blank_picture" "blank_picture" xJ [.int 0 t] f fd ∧ mg "blank_picture" = some (.ref f))
    (zhQ : ∃ t f fd, FunD K "ink_of" "ink_of" uJ [.int 0 t] f fd ∧ mg "ink_of" = some (.ref f)) :
    ∃ fd : FuncData, (∀ (s : Shared) (v : Value), BindsTo s fd ⟨[v], []⟩ [("_law_script", v)]) ∧ ∀ base : Heap, K.In base → base.Ns mainGlobals mg → FnOk P w K mg base CX0 8 fa fd ["_law_script"] (xZ K sLaw) := by
  obtain ⟨fS, dS, MS, FS⟩ := e_State
  obtain ⟨fB, dB, MB, FB⟩ := e_begin
  obtain ⟨zid, zgr, zeC, zi7⟩ := zhk
  obtain ⟨zik, zgy, zeJ, zje⟩ := zhr
  obtain ⟨zit, zgG, zeR, zjm⟩ := zhz
  obtain ⟨zig, zgu, zeF, zja⟩ := zhn
  obtain ⟨zio, zgC, zeN, zji⟩ := zhv
  obtain ⟨zir, zgE, zeP, zjk⟩ := zhx
  obtain ⟨zin, zgB, zeM, zjh⟩ := zhu
  obtain ⟨ziM, zgZ, zfa, zjF⟩ := zhS
  obtain ⟨ziL, zgY, ze9, zjE⟩ := zhR
  obtain ⟨ziI, zgV, ze6, zjB⟩ := zhO
  obtain ⟨ziy, zgL, zeW, zjr⟩ := zhE
  obtain ⟨ziX, zha, zfl, zjQ⟩ := zh3
  obtain ⟨ziE, zgR, ze2, zjx⟩ := zhK
  obtain ⟨zi0, zhd, zfo, zjT⟩ := zh6
  obtain ⟨ziY, zhb, zfm, zjR⟩ := zh4
  obtain ⟨ziW, zg9, zfk, zjP⟩ := zh2
  obtain ⟨ziV, zg8, zfj, zjO⟩ := zh1
  obtain ⟨zi1, zhe, zfp, zjU⟩ := zh7
  obtain ⟨zii, zgw, zeH, zjc⟩ := zhp
  obtain ⟨zi5, zhi, zft, zjY⟩ := zib
  obtain ⟨zi6, zhj, zfu, zjZ⟩ := zic
  obtain ⟨zi2, zhf, zfq, zjV⟩ := zh8
  obtain ⟨ziz, zgM, zeX, zjs⟩ := zhF
  obtain ⟨ziP, zg2, zfd, zjI⟩ := zhV
  obtain ⟨zi4, zhh, zfs, zjX⟩ := zia
  obtain ⟨ziJ, zgW, ze7, zjC⟩ := zhP
  obtain ⟨zi3, zhg, zfr, zjW⟩ := zh9
  obtain ⟨ziG, zgT, ze4, zjz⟩ := zhM
  obtain ⟨ziF, zgS, ze3, zjy⟩ := zhL
  obtain ⟨zih, zgv, zeG, zjb⟩ := zho
  obtain ⟨ziH, zgU, ze5, zjA⟩ := zhN
  obtain ⟨ziZ, zhc, zfn, zjS⟩ := zh5
  obtain ⟨ziD, zgQ, ze1, zjw⟩ := zhJ
  obtain ⟨ziA, zgN, zeY, zjt⟩ := zhG
  obtain ⟨ziT, zg6, zfh, zjM⟩ := zhZ
  obtain ⟨ziU, zg7, zfi, zjN⟩ := zh0
  obtain ⟨ziO, zg1, zfc, zjH⟩ := zhU
  obtain ⟨ziQ, zg3, zfe, zjJ⟩ := zhW
  obtain ⟨ziR, zg4, zff, zjK⟩ := zhX
  obtain ⟨ziS, zg5, zfg, zjL⟩ := zhY
  obtain ⟨ziu, zgH, zeS, zjn⟩ := zhA
  obtain ⟨zil, zgz, zeK, zjf⟩ := zhs
  obtain ⟨zie, zgs, zeD, zi8⟩ := zhl
  obtain ⟨ziv, zgI, zeT, zjo⟩ := zhB
  obtain ⟨ziw, zgJ, zeU, zjp⟩ := zhC
  obtain ⟨zim, zgA, zeL, zjg⟩ := zht
  obtain ⟨zij, zgx, zeI, zjd⟩ := zhq
  obtain ⟨zis, zgF, zeQ, zjl⟩ := zhy
  obtain ⟨zix, zgK, zeV, zjq⟩ := zhD
  obtain ⟨zif, zgt, zeE, zi9⟩ := zhm
  obtain ⟨ziq, zgD, zeO, zjj⟩ := zhw
  obtain ⟨ziN, zg0, zfb, zjG⟩ := zhT
  obtain ⟨zj1, ziC, zgP, ze0, zjv⟩ := zhI
  obtain ⟨zj0, ziB, zgO, zeZ, zju⟩ := zhH
  obtain ⟨zj2, ziK, zgX, ze8, zjD⟩ := zhQ
  rw [hfa] at zjG
  cases zjG
  refine ⟨zg0, fun s v => ?_, fun base _ _ => ?_⟩
  · obtain ⟨oc, od, kV, doc, pm, an, cdv, ct, osl, rfl, _⟩ := zfb.ex
    exact .of_eq rfl
  have zfw : Cal P w K mg base 1 "_law_cell_at" [] (zd K qt) := ⟨zid, zgr, _, [], Yf zeC T, zi7, zeC.kp, zeC.binds fun _ _ _ _ _ _ us hl => match us, hl with | [_, _], _ => rfl, .nil⟩
  have zfD : Cal P w K mg base 1 "_law_mixed" [] (zd K uG) := ⟨zik, zgy, _, [], X8 zeJ T, zje, zeJ.kp, zeJ.binds fun _ _ _ _ _ _ us hl => match us, hl with | [_, _], _ => rfl, .nil⟩
  have zfL : Cal P w K mg base 2 "_law_sizes" [] (zd K XH) := ⟨zit, zgG, _, [], Vf zeR T zfD, zjm, zeR.kp, zeR.binds fun _ _ _ _ _ _ us hl => match us, hl with | [_], _ => rfl, .nil⟩
  have zfz : Cal P w K mg base 2 "_law_drawn_cells" [] (zd K XI) := ⟨zig, zgu, _, [], jW zeF T zfD, zja, zeF.kp, zeF.binds fun _ _ _ _ _ _ us hl => match us, hl with | [_, _, _], _ => rfl, .nil⟩
  have zfH : Cal P w K mg base 1 "_law_place" [] (zd K kh) := ⟨zio, zgC, _, [], Vg zeN T, zji, zeN.kp, zeN.binds fun _ _ _ _ _ _ us hl => match us, hl with | [_, _], _ => rfl, .nil⟩
  have zfJ : Cal P w K mg base 1 "_law_right_edge" [] (zd K jD) := ⟨zir, zgE, _, [], kj zeP T, zjk, zeP.kp, zeP.binds fun _ _ _ _ _ _ us hl => match us, hl with | [_], _ => rfl, .nil⟩
  have zfG : Cal P w K mg base 3 "_law_own_by" [] (zd K XM) := ⟨zin, zgB, _, [], YK zeM T zfw zfD zfL zfz zfH zfJ, zjh, zeM.kp, zeM.binds fun _ _ _ _ _ _ us hl => match us, hl with | [_], _ => rfl, .nil⟩
  have zf7 : Cal P w K mg base 1 "is_whole" [] (zd K Zr) := ⟨ziM, zgZ, _, [], VA zfa T, zjF, zfa.kp, zfa.binds fun _ _ _ _ _ _ us hl => match us, hl with | [_, _, _], _ => rfl, .nil⟩
  have zf6 : Cal P w K mg base 2 "is_size" [] (zd K U3) := ⟨ziL, zgY, _, [], Qu ze9 T zf7, zjE, ze9.kp, ze9.binds fun _ _ _ _ _ _ us hl => match us, hl with | [_, _], _ => rfl, .nil⟩
  have zfV : Cal P w K mg base 1 "blank_row" [] (zd K uY) := ⟨ziC, zgP, _, [], jV ze0 T, zjv, ze0.kp, Vk ze0, .nil⟩
  have zfW : Cal P w K mg base 1 "blank_row" [.int 0] (zd K uY) := ⟨ziC, zgP, _, _, jV ze0 T, zjv, ze0.kp, YL ze0, .cons ⟨zj1, rfl⟩ .nil⟩
  have zfT : Cal P w K mg base 3 "blank_picture" [] (zd K uZ) := ⟨ziB, zgO, _, [], uV zeZ T zf6 zfV, zju, zeZ.kp, kU zeZ, .nil⟩
  have zfU : Cal P w K mg base 3 "blank_picture" [.int 0] (zd K uZ) := ⟨ziB, zgO, _, _, uV zeZ T zf6 zfV, zju, zeZ.kp, kl zeZ, .cons ⟨zj0, rfl⟩ .nil⟩
  have zf2 : Cal P w K mg base 1 "first_stops" [] (zd K XE) := ⟨ziI, zgV, _, [], Yh ze6 T, zjB, ze6.kp, ze6.binds fun _ _ _ _ _ _ us hl => match us, hl with | [_], _ => rfl, .nil⟩
  have zfv : CalT P w K mg base 2 "begin" C (zd K (XF C)) := ⟨fB, dB, _, T.st.cl, MB, Yi FB T zf2, FB.binds fun _ _ _ _ _ _ us hl => match us, hl with | [_], _ => rfl⟩
  have c_State : CalM P w K mg base 4 "State" C (zd K (U9 C)) := ⟨fS, dS, _, MS, YI FS T zfU zfv, T.mgC, FS.binds fun _ _ _ _ _ _ us hl => match us, hl with | [_, _, _], _ => rfl⟩
  have zfQ : Cal P w K mg base 1 "at_least_one" [] (zd K kK) := ⟨ziy, zgL, _, [], ZI zeW T, zjr, zeW.kp, zeW.binds fun _ _ _ _ _ _ us hl => match us, hl with | [_], _ => rfl, .nil⟩
  have zgh : Cal P w K mg base 2 "span" [] (zd K Zs) := ⟨ziX, zha, _, [], zbY zfl T zfQ, zjQ, zfl.kp, zfl.binds fun _ _ _ _ _ _ us hl => match us, hl with | [_, _, _], _ => rfl, .nil⟩
  have zfY : Cal P w K mg base 2 "counted" [] (zd K qI) := ⟨ziE, zgR, _, [], Qt ze2 T zfQ, zjx, ze2.kp, ze2.binds fun _ _ _ _ _ _ us hl => match us, hl with | [_, _, _], _ => rfl, .nil⟩
  have zgk : Cal P w K mg base 3 "to_place" [] (zd K (Zt C)) := ⟨zi0, zhd, _, [], VD zfo T zfY, zjT, zfo.kp, zfo.binds fun _ _ _ _ _ _ us hl => match us, hl with | [_, _, _], _ => rfl, .nil⟩
  have zgi : Cal P w K mg base 4 "to_home" [] (zd K (Zu C)) := ⟨ziY, zhb, _, [], Qx zfm T zgk, zjR, zfm.kp, zfm.binds fun _ _ _ _ _ _ us hl => match us, hl with | [_], _ => rfl, .nil⟩
  have zgg : Cal P w K mg base 5 "set_rows" [] (zd K (U4 C)) := ⟨ziW, zg9, _, [], VE zfk T zgh zgi, zjP, zfk.kp, zfk.binds fun _ _ _ _ _ _ us hl => match us, hl with | [_, _, _], _ => rfl, .nil⟩
  have zgf : Cal P w K mg base 5 "set_columns" [] (zd K (U5 C)) := ⟨ziV, zg8, _, [], Yg zfj T zgh zgi, zjO, zfj.kp, zfj.binds fun _ _ _ _ _ _ us hl => match us, hl with | [_, _, _], _ => rfl, .nil⟩
  have zgl : Cal P w K mg base 5 "turn_modes" [] (zd K (Zv C)) := ⟨zi1, zhe, _, [], YG zfp T zgi, zjU, zfp.kp, zfp.binds fun _ _ _ _ _ _ us hl => match us, hl with | [_, _, _], _ => rfl, .nil⟩
  have zfB : Cal P w K mg base 4 "_law_go_there" [] (zd K (sGo C)) := ⟨zii, zgw, _, [], ZM zeH T zgk, zjc, zeH.kp, zeH.binds fun _ _ _ _ _ _ us hl => match us, hl with | [_, _], _ => rfl, .nil⟩
  have zgp : Cal P w K mg base 1 "with_mark" [] (zd K (sI2 (fun _ _ => True) fun i m => Builtin.bitOr i ((xN [(0, 64), (1, 128), (2, 256)] m).getD 0))) := ⟨zi5, zhi, _, [], Va zft T, zjY, zft.kp, zft.binds fun _ _ _ _ _ _ us hl => match us, hl with | [_, _], _ => rfl, .nil⟩
  have zgq : Cal P w K mg base 1 "without_mark" [] (zd K (sI2 (fun _ _ => True) fun i m => Builtin.bitAnd i (Builtin.bitNot ((xN [(0, 64), (1, 128), (2, 256)] m).getD 0)))) := ⟨zi6, zhj, _, [], ZK zfu T, zjZ, zfu.kp, zfu.binds fun _ _ _ _ _ _ us hl => match us, hl with | [_, _], _ => rfl, .nil⟩
  have zgm : Cal P w K mg base 1 "turned_marks" [] (zd K (sI1 (fun _ => True) fun i => Builtin.bitXor i 448)) := ⟨zi2, zhf, _, [], ZJ zfq T, zjV, zfq.kp, zfq.binds fun _ _ _ _ _ _ us hl => match us, hl with | [_], _ => rfl, .nil⟩
  have zf4 : Cal P w K mg base 1 "ink_of" [] (zd K qu) := ⟨ziK, zgX, _, [], YA ze8 T, zjD, ze8.kp, JB ze8, .nil⟩
  have zf5 : Cal P w K mg base 1 "ink_of" [.int 0] (zd K qu) := ⟨ziK, zgX, _, _, YA ze8 T, zjD, ze8.kp, Qz ze8, .cons ⟨zj2, rfl⟩ .nil⟩
  have zfR : Cal P w K mg base 1 "back_of" [] (zd K (sI1 (fun _ => True) fun i => Builtin.bitAnd (i / 8) 7)) := ⟨ziz, zgM, _, [], Qw zeX T, zjs, zeX.kp, zeX.binds fun _ _ _ _ _ _ us hl => match us, hl with | [_], _ => rfl, .nil⟩
  have zf9 : Cal P w K mg base 1 "marks_of" [] (zd K (sI1 (fun _ => True) fun i => Builtin.bitAnd (i / 64) 7)) := ⟨ziP, zg2, _, [], VB zfd T, zjI, zfd.kp, zfd.binds fun _ _ _ _ _ _ us hl => match us, hl with | [_], _ => rfl, .nil⟩
  have zgo : Cal P w K mg base 2 "with_fore" [] (zd K (sI2 (fun i _ => Ink i) fun i h => h + 8 * Builtin.bitAnd (i / 8) 7 + 64 * Builtin.bitAnd (i / 64) 7)) := ⟨zi4, zhh, _, [], Vb zfs T zf4 zfR zf9, zjX, zfs.kp, zfs.binds fun _ _ _ _ _ _ us hl => match us, hl with | [_, _], _ => rfl, .nil⟩
  have zf3 : Cal P w K mg base 1 "fore_of" [] (zd K (sI1 (fun _ => True) fun i => Builtin.bitAnd i 7)) := ⟨ziJ, zgW, _, [], Qv ze7 T, zjC, ze7.kp, ze7.binds fun _ _ _ _ _ _ us hl => match us, hl with | [_], _ => rfl, .nil⟩
  have zgn : Cal P w K mg base 2 "with_back" [] (zd K (sI2 (fun i h => Ink i ∧ 0 ≤ h ∧ h ≤ 10) fun i h => Builtin.bitAnd i 7 + 8 * h + 64 * Builtin.bitAnd (i / 64) 7)) := ⟨zi3, zhg, _, [], Vc zfr T zf4 zf3 zf9, zjW, zfr.kp, zfr.binds fun _ _ _ _ _ _ us hl => match us, hl with | [_, _], _ => rfl, .nil⟩
  have zf0 : Cal P w K mg base 3 "dyed" [] (zd K YU) := ⟨ziG, zgT, _, [], zbZ ze4 T zgp zgq zgm zgo zgn, zjz, ze4.kp, ze4.binds fun _ _ _ _ _ _ us hl => match us, hl with | [_, _], _ => rfl, .nil⟩
  have zfZ : Cal P w K mg base 4 "dye" [] (zd K (U6 C)) := ⟨ziF, zgS, _, [], zdv ze3 T zf0, zjy, ze3.kp, ze3.binds fun _ _ _ _ _ _ us hl => match us, hl with | [_, _], _ => rfl, .nil⟩
  have zfA : Cal P w K mg base 1 "_law_dyes" [] (zd K Y0) := ⟨zih, zgv, _, [], VH zeG T, zjb, zeG.kp, zeG.binds fun _ _ _ _ _ _ us hl => match us, hl with | [_], _ => rfl, .nil⟩
  have zf1 : Cal P w K mg base 1 "edges" [] (zd K (jB C)) := ⟨ziH, zgU, _, [], K5 ze5 T, zjA, ze5.kp, ze5.binds fun _ _ _ _ _ _ us hl => match us, hl with | [_], _ => rfl, .nil⟩
  have zgj : Cal P w K mg base 2 "to_left_edge" [] (zd K (U8 C)) := ⟨ziZ, zhc, _, [], ZL zfn T zf1, zjS, zfn.kp, zfn.binds fun _ _ _ _ _ _ us hl => match us, hl with | [_], _ => rfl, .nil⟩
  have zfX : Cal P w K mg base 1 "copied" [] (zd K Z8) := ⟨ziD, zgQ, _, [], JA ze1 T, zjw, ze1.kp, ze1.binds fun _ _ _ _ _ _ us hl => match us, hl with | [_], _ => rfl, .nil⟩
  have zfS : Cal P w K mg base 1 "blank_of" [] (zd K (qJ C)) := ⟨ziA, zgN, _, [], VC zeY T, zjt, zeY.kp, zeY.binds fun _ _ _ _ _ _ us hl => match us, hl with | [_], _ => rfl, .nil⟩
  have zgd : Cal P w K mg base 2 "roll_rows" [] (zd K (kb C)) := ⟨ziT, zg6, _, [], Vd zfh T zfX zfS, zjM, zfh.kp, zfh.binds fun _ _ _ _ _ _ us hl => match us, hl with | [_, _, _], _ => rfl, .nil⟩
  have zge : Cal P w K mg base 3 "roll_up" [] (zd K (kb C)) := ⟨ziU, zg7, _, [], Qy zfi T zgd, zjN, zfi.kp, zfi.binds fun _ _ _ _ _ _ us hl => match us, hl with | [_, _, _], _ => rfl, .nil⟩
  have zf8 : Cal P w K mg base 4 "line_end" [] (zd K (XD C)) := ⟨ziO, zg1, _, [], VF zfc T zgj zge, zjH, zfc.kp, zfc.binds fun _ _ _ _ _ _ us hl => match us, hl with | [_], _ => rfl, .nil⟩
  have zga : Cal P w K mg base 2 "move_cells" [] (zd K (KL C)) := ⟨ziQ, zg3, _, [], YH zfe T zf1 zfS, zjJ, zfe.kp, zfe.binds fun _ _ _ _ _ _ us hl => match us, hl with | [_, _], _ => rfl, .nil⟩
  have zgb : Cal P w K mg base 3 "put_cells" [] (zd K (U7 C)) := ⟨ziR, zg4, _, [], Ve zff T zfQ zga, zjK, zff.kp, zff.binds fun _ _ _ _ _ _ us hl => match us, hl with | [_, _], _ => rfl, .nil⟩
  have zgc : Cal P w K mg base 5 "put_sign" [] (zd K (vW C)) := ⟨ziS, zg5, _, [], VG zfg T zf8 zgb zf1, zjL, zfg.kp, zfg.binds fun _ _ _ _ _ _ us hl => match us, hl with | [_, _], _ => rfl, .nil⟩
  have zfM : Cal P w K mg base 6 "_law_state" [] (zd K (XN C)) := ⟨ziu, zgH, _, [], Vi zeS T c_State zgg zgf zgl zfB zfZ zfA zgc, zjn, zeS.kp, zeS.binds fun _ _ _ _ _ _ us hl => match us, hl with | [_], _ => rfl, .nil⟩
  have zfE : Cal P w K mg base 1 "_law_most" [] (zd K Qg) := ⟨zil, zgz, _, [], VI zeK T, zjf, zeK.kp, zeK.binds fun _ _ _ _ _ _ us hl => match us, hl with | [_], _ => rfl, .nil⟩
  have zfx : Cal P w K mg base 6 "_law_changed" [] (zd K (jI C)) := ⟨zie, zgs, _, [], Yj zeD T zfH zfJ zgl zfB zfZ zfA zgc, zi8, zeD.kp, zeD.binds fun _ _ _ _ _ _ us hl => match us, hl with | [_, _, _], _ => rfl, .nil⟩
  have zfN : Cal P w K mg base 1 "_law_times" [] (zd K Zq) := ⟨ziv, zgI, _, [], X9 zeT T, zjo, zeT.kp, zeT.binds fun _ _ _ _ _ _ us hl => match us, hl with | [_], _ => rfl, .nil⟩
  have zfO : Cal P w K mg base 1 "_law_window" [] (zd K KQ) := ⟨ziw, zgJ, _, [], YJ zeU T, zjp, zeU.kp, zeU.binds fun _ _ _ _ _ _ us hl => match us, hl with | [_], _ => rfl, .nil⟩
  have zfF : Cal P w K mg base 1 "_law_moved" [] (zd K Zy) := ⟨zim, zgA, _, [], Vh zeL T, zjg, zeL.kp, zeL.binds fun _ _ _ _ _ _ us hl => match us, hl with | [_, _, _, _], _ => rfl, .nil⟩
  have zfC : Cal P w K mg base 2 "_law_line_end" [] (zd K (K2 C)) := ⟨zij, zgx, _, [], ZN zeI T zfO zfF, zjd, zeI.kp, zeI.binds fun _ _ _ _ _ _ us hl => match us, hl with | [_], _ => rfl, .nil⟩
  have zfK : Cal P w K mg base 3 "_law_sign" [] (xZ K (Zz C)) := ⟨zis, zgF, _, [], VJ zeQ T zfC zfF zfJ, zjl, zeQ.kp, zeQ.binds fun _ _ _ _ _ _ us hl => match us, hl with | [_, _], _ => rfl, .nil⟩
  have zfP : Cal P w K mg base 6 "again" [] (zd K (ZB C)) := ⟨zix, zgK, _, [], K6 zeV T zfQ zgc, zjq, zeV.kp, zeV.binds fun _ _ _ _ _ _ us hl => match us, hl with | [_, _], _ => rfl, .nil⟩
  have zfy : Cal P w K mg base 7 "_law_deed" [] (xZ K (XS C)) := ⟨zif, zgt, _, [], VL zeE T zfx zfN zfK zfP zgc, zi9, zeE.kp, zeE.binds fun _ _ _ _ _ _ us hl => match us, hl with | [_, _, _], _ => rfl, .nil⟩
  have zfI : Cal P w K mg base 1 "_law_right" [] (zd K (XO C)) := ⟨ziq, zgD, _, [], Vj zeO T, zjj, zeO.kp, zeO.binds fun _ _ _ _ _ _ us hl => match us, hl with | [_, _], _ => rfl, .nil⟩
  exact zdw zfb T zfG zfM zfE zfD zfy zfI zfw zfK zfP
theorem txt_mk {K : PySem.W.Frag} {h : Heap} {mg : Str → Option Value} {C aB : Addr} {t_WIDEST t_HIGHEST t_TAB_STEP t_ALL_MARKS : Tok} (X : K.In h) (G : h.Ns mainGlobals mg)
    (n_len : PySem.W.nsIn K mainGlobals "len" = some none)
    (n_range : PySem.W.nsIn K mainGlobals "range" = some none)
    (n_int : PySem.W.nsIn K mainGlobals "int" = some none)
    (n_bool : PySem.W.nsIn K mainGlobals "bool" = some none)
    (n_dict : PySem.W.nsIn K mainGlobals "dict" = some none)
    (n_list : PySem.W.nsIn K mainGlobals "list" = some none)
    (n_tuple : PySem.W.nsIn K mainGlobals "tuple" = some none)
    (n_isinstance : PySem.W.nsIn K mainGlobals "isinstance" = some none)
    (n_sorted : PySem.W.nsIn K mainGlobals "sorted" = some none)
    (n_min : PySem.W.nsIn K mainGlobals "min" = some none)
    (n_max : PySem.W.nsIn K mainGlobals "max" = some none)
    (g_WIDEST : PySem.W.nsIn K mainGlobals "WIDEST" = some (some (.int 24 t_WIDEST)))
    (g_HIGHEST : PySem.W.nsIn K mainGlobals "HIGHEST" = some (some (.int 12 t_HIGHEST)))
    (g_TAB_STEP : PySem.W.nsIn K mainGlobals "TAB_STEP" = some (some (.int 4 t_TAB_STEP)))
    (g_ALL_MARKS : PySem.W.nsIn K mainGlobals "ALL_MARKS" = some (some (.int 448 t_ALL_MARKS)))
    (g_B : PySem.W.nsIn K mainGlobals "BITS_BY_MARK" = some (some (.ref aB))) (d_B : DK K aB [(0, 64), (1, 128), (2, 256)])
    (aC : PySem.W.nsIn K mainGlobals "State" = some (some (.ref C)))
    (pg : PySem.W.plainGet K C Str.empty = true) (hd : PySem.W.hasDictIn K C = true) (po : PySem.W.plainOver K C = true) (sa : PySem.W.findIn K (.ref C) "__setattr__" = some (some (.builtin "object.__setattr__")))
    (a_picture : PySem.W.findIn K (.ref C) "picture" = some none)
    (a_wide : PySem.W.findIn K (.ref C) "wide" = some none)
    (a_high : PySem.W.findIn K (.ref C) "high" = some none)
    (a_row : PySem.W.findIn K (.ref C) "row" = some none)
    (a_column : PySem.W.findIn K (.ref C) "column" = some none)
    (a_late : PySem.W.findIn K (.ref C) "late" = some none)
    (a_ink : PySem.W.findIn K (.ref C) "ink" = some none)
    (a_wrap : PySem.W.findIn K (.ref C) "wrap" = some none)
    (a_putting : PySem.W.findIn K (.ref C) "putting" = some none)
    (a_home : PySem.W.findIn K (.ref C) "home" = some none)
    (a_top : PySem.W.findIn K (.ref C) "top" = some none)
    (a_bottom : PySem.W.findIn K (.ref C) "bottom" = some none)
    (a_left : PySem.W.findIn K (.ref C) "left" = some none)
    (a_right : PySem.W.findIn K (.ref C) "right" = some none)
    (a_stops : PySem.W.findIn K (.ref C) "stops" = some none)
    (a_kept : PySem.W.findIn K (.ref C) "kept" = some none)
    (a_last : PySem.W.findIn K (.ref C) "last" = some none)
    : Txt K mg C :=
  ⟨PySem.W.mg_none_of X G n_len, PySem.W.mg_none_of X G n_range, PySem.W.mg_none_of X G n_int, PySem.W.mg_none_of X G n_bool, PySem.W.mg_none_of X G n_dict, PySem.W.mg_none_of X G n_list, PySem.W.mg_none_of X G n_tuple, PySem.W.mg_none_of X G n_isinstance, PySem.W.mg_none_of X G n_sorted, PySem.W.mg_none_of X G n_min, PySem.W.mg_none_of X G n_max, ⟨t_WIDEST, PySem.W.mg_of X G g_WIDEST⟩, ⟨t_HIGHEST, PySem.W.mg_of X G g_HIGHEST⟩, ⟨t_TAB_STEP, PySem.W.mg_of X G g_TAB_STEP⟩, ⟨t_ALL_MARKS, PySem.W.mg_of X G g_ALL_MARKS⟩, ⟨aB, PySem.W.mg_of X G g_B, d_B⟩, PySem.W.mg_of X G aC, ⟨⟨pg, hd, po, sa⟩, a_picture, a_wide, a_high, a_row, a_column, a_late, a_ink, a_wrap, a_putting, a_home, a_top, a_bottom, a_left, a_right, a_stops, a_kept, a_last⟩⟩
end K11
noncomputable def PySem.W.Fast.tw2617895528990214615 : Unit := ()
noncomputable def PySem.W.Fast.tw8999057385842813935 : Unit := ()
noncomputable def PySem.W.Fast.tw10697824784646930443 : Unit := ()
noncomputable def PySem.W.Fast.tw2827533579766442532 : Unit := ()
noncomputable def PySem.W.Fast.tw7889737252668997745 : Unit := ()
noncomputable def PySem.W.Fast.tw11728177847598131883 : Unit := ()
noncomputable def PySem.W.Fast.tw12253845737819257223 : Unit := ()
noncomputable def PySem.W.Fast.tw1519425505902448829 : Unit := ()
noncomputable def PySem.W.Fast.tw17295158942711768808 : Unit := ()
noncomputable def PySem.W.Fast.tw2740940033856859019 : Unit := ()
noncomputable def PySem.W.Fast.tw15492201487977376776 : Unit := ()
noncomputable def PySem.W.Fast.tw11833211306297665922 : Unit := ()
noncomputable def PySem.W.Fast.tw16056833414443306269 : Unit := ()
noncomputable def PySem.W.Fast.tw15154819900756895190 : Unit := ()
noncomputable def PySem.W.Fast.tw12002169368630581763 : Unit := ()
noncomputable def PySem.W.Fast.tw7512238028008745035 : Unit := ()
noncomputable def PySem.W.Fast.tw1434490735337523340 : Unit := ()
noncomputable def PySem.W.Fast.tw8279392354561031791 : Unit := ()
noncomputable def PySem.W.Fast.tw17138978537941435180 : Unit := ()
noncomputable def PySem.W.Fast.tw10581596731675345882 : Unit := ()
noncomputable def PySem.W.Fast.tw4984154010772812360 : Unit := ()
noncomputable def PySem.W.Fast.tw14044041186092530937 : Unit := ()
noncomputable def PySem.W.Fast.tw8890134466078341605 : Unit := ()
noncomputable def PySem.W.Fast.tw724906842342967345 : Unit := ()
noncomputable def PySem.W.Fast.tw17179679029090485962 : Unit := ()
noncomputable def PySem.W.Fast.tw1976858636594604325 : Unit := ()
noncomputable def PySem.W.Fast.tw7873962131967781066 : Unit := ()
noncomputable def PySem.W.Fast.tw5626061572573147018 : Unit := ()
noncomputable def PySem.W.Fast.tw14664765257256532904 : Unit := ()
noncomputable def PySem.W.Fast.tw5409935597961427019 : Unit := ()
noncomputable def PySem.W.Fast.tw16829883305331505149 : Unit := ()
noncomputable def PySem.W.Fast.tw423552412072857974 : Unit := ()
noncomputable def PySem.W.Fast.tw7296183789880449184 : Unit := ()
noncomputable def PySem.W.Fast.tw6598243448079091256 : Unit := ()
noncomputable def PySem.W.Fast.tw4045339737507028578 : Unit := ()
noncomputable def PySem.W.Fast.tw10022516532616644477 : Unit := ()
noncomputable def PySem.W.Fast.tw1578111502349580581 : Unit := ()
noncomputable def PySem.W.Fast.tw13430620572614979088 : Unit := ()
noncomputable def PySem.W.Fast.tw5385623350961725208 : Unit := ()
noncomputable def PySem.W.Fast.tw12239629088605532125 : Unit := ()
noncomputable def PySem.W.Fast.tw4563157341867128533 : Unit := ()
noncomputable def PySem.W.Fast.tw6305820292262866142 : Unit := ()
noncomputable def PySem.W.Fast.tw6816758886453889551 : Unit := ()
noncomputable def PySem.W.Fast.tw15461183833020969725 : Unit := ()
noncomputable def PySem.W.Fast.tw15073831640614618427 : Unit := ()
noncomputable def PySem.W.Fast.tw13457330780024567603 : Unit := ()
noncomputable def PySem.W.Fast.tw12010070248602581467 : Unit := ()
noncomputable def PySem.W.Fast.tw14135467173472373361 : Unit := ()
noncomputable def PySem.W.Fast.tw13035088766243805357 : Unit := ()
noncomputable def PySem.W.Fast.tw14520170095881217389 : Unit := ()
noncomputable def PySem.W.Fast.tw16624382586725200468 : Unit := ()
noncomputable def PySem.W.Fast.tw2433274200539758666 : Unit := ()
noncomputable def PySem.W.Fast.tw16529576362936430193 : Unit := ()
noncomputable def PySem.W.Fast.tw14379005398711800483 : Unit := ()
noncomputable def PySem.W.Fast.tw2328643647282834128 : Unit := ()
noncomputable def PySem.W.Fast.tw12733636211526937306 : Unit := ()
noncomputable def PySem.W.Fast.tw15220040472063704870 : Unit := ()
noncomputable def PySem.W.Fast.tw4160282447246512251 : Unit := ()
noncomputable def PySem.W.Fast.tw11034360155151000333 : Unit := ()
noncomputable def PySem.W.Fast.tw8578606027102097962 : Unit := ()
noncomputable def PySem.W.Fast.tw7729280846420527212 : Unit := ()
noncomputable def PySem.W.Fast.tw8973853998708411812 : Unit := ()
noncomputable def PySem.W.Fast.tw4387051046747071528 : Unit := ()
noncomputable def PySem.W.Fast.tw217756977461745966 : Unit := ()
noncomputable def PySem.W.Fast.tw6573019601746207153 : Unit := ()
noncomputable def PySem.W.Fast.tw14338587931459083336 : Unit := ()
noncomputable def PySem.W.Fast.tw12038769192668138102 : Unit := ()
open PySem PySem.W PyProof.Rows
set_option maxRecDepth 100000 in
set_option maxHeartbeats 0 in
theorem PySem.Challenge.cw_signscreen_k11_signs_written_holds : PySem.Challenge.rw_signscreen_k11_signs_written.Holds := by
  w_on; o_law; k_head; (case hw => w_witness2)
  k_fill
  refine L2.walkQ (l := PySem.Challenge.rw_signscreen_k11_signs_written) (n := 63) (k := 8) (x := "_law_script") (s := L2.sLaw) rfl (by decide) rfl ⟨rfl, by decide, by decide, rfl⟩ (fun w h Y => PySem.W.kIn_of Y) ?F (fun ns O R hl hb hR => ⟨ns, rfl, fun n h => (hb n h).mono (by decide), hl, hR⟩)
  case F =>
    intro w mg fa h KX G hmg
    refine' K11.all_mk ?T hmg ?e_State ?e_begin ?zhk ?zhr ?zhz ?zhn ?zhv ?zhx ?zhu ?zhS ?zhR ?zhO ?zhE ?zh3 ?zhK ?zh6 ?zh4 ?zh2 ?zh1 ?zh7 ?zhp ?zib ?zic ?zh8 ?zhF ?zhV ?zia ?zhP ?zh9 ?zhM ?zhL ?zho ?zhN ?zh5 ?zhJ ?zhG ?zhZ ?zh0 ?zhU ?zhW ?zhX ?zhY ?zhA ?zhs ?zhl ?zhB ?zhC ?zht ?zhq ?zhy ?zhD ?zhm ?zhw ?zhT ?zhI ?zhH ?zhQ
    case T =>
      refine' K11.txt_mk KX G ?n_len ?n_range ?n_int ?n_bool ?n_dict ?n_list ?n_tuple ?n_isinstance ?n_sorted ?n_min ?n_max ?g_WIDEST ?g_HIGHEST ?g_TAB_STEP ?g_ALL_MARKS ?g_B ?d_B ?aC ?pg ?hd ?po ?sa ?a_picture ?a_wide ?a_high ?a_row ?a_column ?a_late ?a_ink ?a_wrap ?a_putting ?a_home ?a_top ?a_bottom ?a_left ?a_right ?a_stops ?a_kept ?a_last
      (case n_len => k_is)
      (case n_range => k_is)
      (case n_int => k_is)
      (case n_bool => k_is)
      (case n_dict => k_is)
      (case n_list => k_is)
      (case n_tuple => k_is)
      (case n_isinstance => k_is)
      (case n_sorted => k_is)
      (case n_min => k_is)
      (case n_max => k_is)
      (case g_WIDEST => k_is)
      (case g_HIGHEST => k_is)
      (case g_TAB_STEP => k_is)
      (case g_ALL_MARKS => k_is)
      (case g_B => k_is)
      (case d_B => rfl)
      (case aC => k_is)
      (case pg => k_is)
      (case hd => k_is)
      (case po => k_is)
      (case sa => k_is)
      (case a_picture => k_is)
      (case a_wide => k_is)
      (case a_high => k_is)
      (case a_row => k_is)
      (case a_column => k_is)
      (case a_late => k_is)
      (case a_ink => k_is)
      (case a_wrap => k_is)
      (case a_putting => k_is)
      (case a_home => k_is)
      (case a_top => k_is)
      (case a_bottom => k_is)
      (case a_left => k_is)
      (case a_right => k_is)
      (case a_stops => k_is)
      (case a_kept => k_is)
      (case a_last => k_is)
    case e_State =>
      refine' K11.mk_State ?mk ?a1 ?i1 ?kc ?l ?c ?k
      (case mk => k_is); (case a1 => k_is); (case i1 => k_is); (case kc => k_is); (case l => k_is); (case c => k_is); (case k => k_is)
    case e_begin =>
      refine' K11.mt_begin ?a1 ?i1 ?l ?c ?k
      (case a1 => k_is); (case i1 => k_is); (case l => k_is); (case c => k_is); (case k => k_is)
    case zhI => exact ⟨_, by (refine' K11.fkD KX G ?a ?l ?c ?k ?t ?e; (case a => k_is); (case l => k_is); (case c => k_is); (case k => k_is); (case t => k_is); (case e => rfl))⟩
    case zhH => exact ⟨_, by (refine' K11.fkD KX G ?a ?l ?c ?k ?t ?e; (case a => k_is); (case l => k_is); (case c => k_is); (case k => k_is); (case t => k_is); (case e => rfl))⟩
    case zhQ => exact ⟨_, by (refine' K11.fkD KX G ?a ?l ?c ?k ?t ?e; (case a => k_is); (case l => k_is); (case c => k_is); (case k => k_is); (case t => k_is); (case e => rfl))⟩
    all_goals (refine' K11.fk KX G ?a ?l ?c ?k; (case a => k_is); (case l => k_is); (case c => k_is); (case k => k_is))
