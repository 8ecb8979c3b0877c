import PyProof.Rows.All
import Wide.All
import OpenK.AllK
import Wide.FinOn
import Lean
import PyProof.EqAt
import PyProof.EqKinds
import PyProof.TupleCall
import KE.KTryMore
import KE.KDictOf
import PyProof.AttrMissHeap
import PyProof.Seq
import PyProof.Rows.Tup
import KE.KDictSum
import PyProof.Rows.SortWalk
import PyProof.EnumStmt
import PyProof.EnumMake
import PyProof.EnumFor
import PyProof.Rows.Range3
import PyProof.ReprRoads
import PyProof.Rows.MinMaxN
import KE.KMinBuiltin
import PyProof.Rows.CallKwBuiltin
import KE.KTabLook
import KE.KDictList
import PyProof.ListRange
import PySem.Challenge.RW_signscreen_k16_whole_cells_kept
set_option compiler.extract_closed false
set_option Elab.async false
set_option linter.all false
set_option maxRecDepth 100000
set_option maxHeartbeats 4000000
namespace L2
open PySem PySem.Spec PyProof.Rows
noncomputable abbrev Key := Sum Int Str
noncomputable def qP : Key → Value → Bool
  | .inl k, v => Value.isInt k v
  | .inr x, v => Value.isStrOf x v
noncomputable def zd6 (w : World) : Key → Int
  | .inl k => hashInt k
  | .inr x => hashStr w x
theorem xn : ∀ {k : Key} {v : Value}, qP k v = true → (∃ i t, k = Sum.inl i ∧ v = Value.int i t) ∨ (∃ x t, k = Sum.inr x ∧ v = Value.str x t)
  | .inl i, v, h => by
    obtain ⟨t, e⟩ := Value.isInt_shape (k := i) (v := v) h
    exact .inl ⟨i, t, rfl, e⟩
  | .inr x, v, h => by
    obtain ⟨t, e⟩ := Value.isStrOf_shape (x := x) (v := v) h
    exact .inr ⟨x, t, rfl, e⟩
theorem Qz (i : Int) (t : Tok) : qP (.inl i) (.int i t) = true := by simp [qP, Value.isInt]
theorem QB (x : Str) (t : Tok) : qP (.inr x) (.str x t) = true := by simp [qP, Value.isStrOf]
theorem zbP (a b : Int) : decide ((Sum.inl a : Key) = Sum.inl b) = (a == b) := by
  by_cases e : a = b
  · subst e; simp
  · have h : ¬ (Sum.inl a : Key) = Sum.inl b := fun q => e (Sum.inl.inj q)
    rw [decide_eq_false h]
    exact (beq_eq_false_iff_ne.mpr e).symm
theorem zbQ (a b : Str) : decide ((Sum.inr a : Key) = Sum.inr b) = decide (a = b) := by
  by_cases e : a = b
  · subst e; simp
  · have h : ¬ (Sum.inr a : Key) = Sum.inr b := fun q => e (Sum.inr.inj q)
    rw [decide_eq_false h, decide_eq_false e]
theorem zbR (a : Int) (b : Str) : decide ((Sum.inl a : Key) = Sum.inr b) = false := decide_eq_false (fun q => nomatch q)
theorem zbS (a : Str) (b : Int) : decide ((Sum.inr a : Key) = Sum.inl b) = false := decide_eq_false (fun q => nomatch q)
noncomputable def yT (prog : Program) (w : World) : PySem.KeyKind prog w Key where
  is := qP
  hash := zd6 w
  inj := fun v a b ha hb => by
    rcases xn ha with ⟨i, t, rfl, rfl⟩ | ⟨x, t, rfl, rfl⟩
    · rcases xn hb with ⟨j, u, rfl, e⟩ | ⟨y, u, rfl, e⟩
      · injection e with e1 _; rw [e1]
      · exact nomatch e
    · rcases xn hb with ⟨j, u, rfl, e⟩ | ⟨y, u, rfl, e⟩
      · exact nomatch e
      · injection e with e1 _; rw [e1]
  byValue := fun k v h => by
    rcases xn h with ⟨i, t, rfl, rfl⟩ | ⟨x, t, rfl, rfl⟩ <;> rfl
  pyHash := fun hv h => by
    rcases xn hv with ⟨i, t, rfl, rfl⟩ | ⟨x, t, rfl, rfl⟩
    · exact wpAny_pyHash_int h
    · exact wpAny_pyHash_str h
  eqBool := fun hu hv h => by
    rcases xn hu with ⟨i, t, rfl, rfl⟩ | ⟨x, t, rfl, rfl⟩
    · rcases xn hv with ⟨j, u, rfl, rfl⟩ | ⟨y, u, rfl, rfl⟩
      · rw [zbP] at h; exact wpAny_eqBool_int h
      · rw [zbR] at h; exact SeqAt.EqAt.int_str i t y u _ _ _ _ h
    · rcases xn hv with ⟨j, u, rfl, rfl⟩ | ⟨y, u, rfl, rfl⟩
      · rw [zbS] at h; exact SeqAt.EqAt.str_int x t j u _ _ _ _ h
      · rw [zbQ] at h; exact wpAny_eqBool_str h
  «strs» := fun k x t v h => by
    rcases xn h with ⟨i, u, rfl, e⟩ | ⟨y, u, rfl, e⟩
    · exact nomatch e
    · injection e with e1 _
      subst e1
      cases v <;> rfl
theorem Vp (prog : Program) (w : World) (i : Int) (t : Tok) : (yT prog w).is (.inl i) (.int i t) = true := Qz i t
theorem Vq (prog : Program) (w : World) (x : Str) (t : Tok) : (yT prog w).is (.inr x) (.str x t) = true := QB x t
end L2
namespace L2
open PySem PySem.Spec PyProof.Rows
inductive V where
  | non | bl (b : Bool) | int (i : Int) | str (x : Str) | byt (b : Array UInt8) | flt (b : UInt64) | ref (a : Addr) | ty (n : String)
  deriving DecidableEq
noncomputable def RelV : V → Value → Prop
  | .non, u => u = Value.none
  | .bl b, u => u = Value.bool b
  | .int i, u => ∃ t, u = Value.int i t
  | .str x, u => ∃ t, u = Value.str x t
  | .byt b, u => ∃ t, u = Value.bytes b t
  | .flt b, u => ∃ t, u = Value.float b t
  | .ref a, u => u = Value.ref a
  | .ty n, u => u = Value.type n
noncomputable abbrev Vals : List V → List Value → Prop := Paired RelV
theorem Vals.length {xs : List V} {us : List Value} (r : Vals xs us) : xs.length = us.length := Paired.length r
theorem Vals.get : ∀ {xs : List V} {us : List Value} {i : Nat} {x : V}, Vals xs us → xs[i]? = some x → ∃ u, us[i]? = some u ∧ RelV x u
  | _, _, _, _, .nil, e => by simp at e
  | _, _, 0, _, .cons r _, e => by simp at e; subst e; exact ⟨_, rfl, r⟩
  | _, _, i + 1, x, .cons _ t, e => by
    obtain ⟨u, h1, h2⟩ := Vals.get (i := i) (x := x) t (by simpa using e)
    exact ⟨u, by simpa using h1, h2⟩
theorem Vals.set {x : V} {u : Value} (r : RelV x u) : ∀ {xs : List V} {us : List Value} (i : Nat), Vals xs us → Vals (xs.set i x) (us.set i u)
  | _, _, _, .nil => .nil
  | _, _, 0, .cons _ t => .cons r t
  | _, _, i + 1, .cons q t => .cons q (Vals.set r i t)
theorem Vals.append : ∀ {xs ys : List V} {us ws : List Value}, Vals xs us → Vals ys ws → Vals (xs ++ ys) (us ++ ws)
  | _, _, _, _, .nil, s => s
  | _, _, _, _, .cons r t, s => .cons r (Vals.append t s)
theorem Vals.take : ∀ {xs : List V} {us : List Value} (n : Nat), Vals xs us → Vals (xs.take n) (us.take n)
  | _, _, 0, _ => .nil
  | _, _, _ + 1, .nil => .nil
  | _, _, n + 1, .cons r t => .cons r (Vals.take n t)
theorem Vals.drop : ∀ {xs : List V} {us : List Value} (n : Nat), Vals xs us → Vals (xs.drop n) (us.drop n)
  | _, _, 0, r => r
  | _, _, _ + 1, .nil => .nil
  | _, _, n + 1, .cons _ t => Vals.drop n t
theorem Vals.none_of : ∀ {xs : List V} {us : List Value} {i : Nat}, Vals xs us → xs[i]? = none → us[i]? = none := fun {xs us i} r e => by
  have h1 := r.length
  have h2 : xs.length ≤ i := List.getElem?_eq_none_iff.mp e
  exact List.getElem?_eq_none_iff.mpr (by omega)
noncomputable def xX : Option V → Option Value → Prop
  | some v, some u => RelV v u
  | none, none => True
  | _, _ => False
noncomputable def KV {κ : Type} : List (κ × V) → List (κ × Value) → Prop := Paired fun (p : κ × V) (q : κ × Value) => p.1 = q.1 ∧ RelV p.2 q.2
noncomputable def kV : Key → V
  | .inl i => .int i
  | .inr x => .str x
inductive HO where
  | lst (xs : List V)
  | tup (xs : List V)
  | dK (kvs : List (Key × V)) | dT (kvs : List (List Key × V))
  | set (S : Int → Bool) (n : Nat)
  | ins (C dx : Addr) (fs : List (Str × V))
  | own (x : Addr)
  | xd (fs : List (Str × V))
  | met (f x : Addr)
  | rng (lo hi : Int)
  | frz (o : Obj) (u : HO)
  | tbl (ps : Array Value)
  | ext (φ : Heap → Prop)
noncomputable abbrev Hp := Addr → Option HO
noncomputable def upd (H : Hp) (a : Addr) (o : HO) : Hp := fun b => if b = a then some o else H b
theorem zX {H : Hp} {a : Addr} {o : HO} : upd H a o a = some o := by unfold upd; rw [if_pos rfl]
theorem zm {H : Hp} {a b : Addr} {o : HO} (h : b ≠ a) : upd H a o b = H b := by unfold upd; rw [if_neg h]
theorem VR {H : Hp} {a : Addr} {o u : HO} : upd (upd H a o) a u = upd H a u := by
  funext b; unfold upd; split <;> rfl
theorem zdq {H : Hp} {a b : Addr} {o u : HO} (h : H a = some o) (h' : H b = some u) (d : o ≠ u) : a ≠ b := by
  intro e; subst e; rw [h] at h'; exact d (Option.some.inj h')
theorem yU {H : Hp} {a b : Addr} {o : HO} (h : H a = some o) (h' : H b = none) : a ≠ b := by
  intro e; subst e; rw [h] at h'; cases h'
section
variable (P : Program) (w : World)
noncomputable def xc (H : Hp) (h : Heap) (a : Addr) : HO → Prop
  | .lst xs => xs.length ≤ sizeLine ∧ ∃ (its : List Value) (n : Nat), Vals xs its ∧ h.get? a = some { cls := .type "list", data := .seq its.toArray n }
  | .tup xs => xs.length ≤ sizeLine ∧ ∃ its : List Value, Vals xs its ∧ IsTup h a its.toArray
  | .dK kvs => kvs.length ≤ sizeLine ∧ (a == sysModules) = false ∧ ∃ vs, KV kvs vs ∧ h.DictOf (yT P w) a vs
  | .dT kvs => kvs.length ≤ sizeLine ∧ (a == sysModules) = false ∧ ∃ xs : List (List Key × Addr × Value),
      Paired (fun (p : List Key × V) (q : List Key × Addr × Value) => p.1 = q.1 ∧ H q.2.1 = some (.tup (p.1.map kV)) ∧ RelV p.2 q.2.2) kvs xs ∧
      ∃ o es ep, h.get? a = some o ∧ o.ExactDict ∧ o.data = .dict es ep ∧ es.toList = xs.map (entryOfKey (tupleKind (yT P w))) ∧ (xs.map (·.1)).Nodup
  | .set S n => h.SetOf (intKind P w) a S n
  | .ins C dx fs => H dx = some (.own a) ∧ fs.length ≤ 1000 ∧ dx ≠ a ∧ h.get? a = some (PySem.W.instObj C dx) ∧
      ∃ mA, h.Ns1 dx mA ∧ (∀ f, xX (fs.lookup f) (mA f)) ∧ PySem.Within mA (fs.map (·.1))
  | .own _ => ∃ o, h.get? a = some o
  | .xd fs => ∃ mA, h.Ns1 a mA ∧ ∀ f, xX (fs.lookup f) (mA f)
  | .rng lo hi => ∃ t u v, h.get? a = some { cls := .type "range", data := .fields #[.int lo t, .int hi u, .int 1 v] }
  | .frz o u => h.get? a = some o ∧ xc H h a u
  | .tbl ps => h.get? a = some { cls := .none, data := .fields ps }
  | .met f x => h.get? a = some (PySem.W.methodObj (.ref f) (.ref x))
  | .ext φ => φ h ∧ (∃ o, h.get? a = some o) ∧ ∀ h1 h2 : Heap, φ h1 → (∀ o, h1.get? a = some o → h2.get? a = some o) → φ h2
noncomputable def HOk (H : Hp) (h : Heap) : Prop := ∀ a o, H a = some o → xc P w H h a o
end
section
variable {P : Program} {w : World} {H H' : Hp} {h h' : Heap} {a : Addr} {o : HO}
theorem xc.lt (x : xc P w H h a o) : a < h.objs.size := by
  cases o with
  | lst xs => obtain ⟨_, _, _, _, e⟩ := x; exact Heap.lt_size e
  | tup xs => obtain ⟨_, _, _, p⟩ := x; exact p.lt
  | dK kvs => obtain ⟨_, _, _, _, o, _, _, e, _⟩ := x; exact Heap.lt_size e
  | dT kvs => obtain ⟨_, _, _, _, o, _, _, e, _⟩ := x; exact Heap.lt_size e
  | set S n => obtain ⟨o, _, _, _, e, _⟩ := x; exact Heap.lt_size e
  | ins C dx fs => obtain ⟨_, _, _, e, _⟩ := x; exact Heap.lt_size e
  | own y => obtain ⟨_, e⟩ := x; exact Heap.lt_size e
  | xd fs => obtain ⟨_, ⟨_, _, _, e, _⟩, _⟩ := x; exact Heap.lt_size e
  | rng lo hi => obtain ⟨_, _, _, e⟩ := x; exact Heap.lt_size e
  | frz ob u => obtain ⟨e, _⟩ := x; exact Heap.lt_size e
  | tbl ps => exact Heap.lt_size (show h.get? a = some _ from x)
  | met f y => exact Heap.lt_size (show h.get? a = some _ from x)
  | ext φ => obtain ⟨_, ⟨_, e⟩, _⟩ := x; exact Heap.lt_size e
theorem Paired.mapP {α β : Type} {F G : α → β → Prop} : ∀ {l₁ : List α} {l₂ : List β}, Paired F l₁ l₂ → (∀ a b, F a b → G a b) → Paired G l₁ l₂
  | _, _, .nil, _ => .nil
  | _, _, .cons r t, f => .cons (f _ _ r) (Paired.mapP t f)
theorem Paired.imp' {α β : Type} {F G : α → β → Prop} (f : ∀ a b, F a b → G a b) {l₁ : List α} {l₂ : List β} (r : Paired F l₁ l₂) : Paired G l₁ l₂ := Paired.mapP r f
theorem xc.stay (x : xc P w H h a o) (k : ∀ b u, (b = a ∨ H b = some (.own a)) → h.get? b = some u → h'.get? b = some u)
    (ho : ∀ b, H b = some (.own a) → H' b = some (.own a)) (ht : ∀ b xs, H b = some (.tup xs) → H' b = some (.tup xs)) : xc P w H' h' a o := by
  induction o with
  | lst xs => obtain ⟨z, its, n, r, e⟩ := x; exact ⟨z, its, n, r, k _ _ (.inl rfl) e⟩
  | tup xs => obtain ⟨z, its, r, ob, e, c⟩ := x; exact ⟨z, its, r, ob, k _ _ (.inl rfl) e, c⟩
  | dK kvs => obtain ⟨z, y, vs, r, ob, es, ep, e, c⟩ := x; exact ⟨z, y, vs, r, ob, es, ep, k _ _ (.inl rfl) e, c⟩
  | dT kvs =>
    obtain ⟨z, y, xs, r, ob, es, ep, e, c⟩ := x
    exact ⟨z, y, xs, Paired.mapP r fun p q z => ⟨z.1, ht _ _ z.2.1, z.2.2⟩, ob, es, ep, k _ _ (.inl rfl) e, c⟩
  | set S n => obtain ⟨ob, es, ep, t, e, c⟩ := x; exact ⟨ob, es, ep, t, k _ _ (.inl rfl) e, c⟩
  | ins C dx fs =>
    obtain ⟨d, z, ne, e, mA, ⟨od, es, ep, e2, c⟩, r⟩ := x
    exact ⟨ho _ d, z, ne, k _ _ (.inl rfl) e, mA, ⟨od, es, ep, k _ _ (.inr d) e2, c⟩, r⟩
  | own y => obtain ⟨ob, e⟩ := x; exact ⟨ob, k _ _ (.inl rfl) e⟩
  | xd fs => obtain ⟨mA, ⟨od, es, ep, e, c⟩, r⟩ := x; exact ⟨mA, ⟨od, es, ep, k _ _ (.inl rfl) e, c⟩, r⟩
  | rng lo hi => obtain ⟨t, u, v, e⟩ := x; exact ⟨t, u, v, k _ _ (.inl rfl) e⟩
  | frz ob u ih => obtain ⟨e, q⟩ := x; exact ⟨k _ _ (.inl rfl) e, ih q⟩
  | tbl ps =>
    have e : h.get? a = some { cls := .none, data := .fields ps } := x
    show h'.get? a = some { cls := .none, data := .fields ps }
    exact k a _ (.inl rfl) e
  | met f y =>
    have e : h.get? a = some (PySem.W.methodObj (.ref f) (.ref y)) := x
    show h'.get? a = some (PySem.W.methodObj (.ref f) (.ref y))
    exact k a _ (.inl rfl) e
  | ext φ => obtain ⟨p, ⟨o, e⟩, st⟩ := x; exact ⟨st _ _ p fun o q => k _ _ (.inl rfl) q, ⟨o, k _ _ (.inl rfl) e⟩, st⟩
theorem HOk.lt (x : HOk P w H h) (e : H a = some o) : a < h.objs.size := (x a o e).lt
theorem HOk.fresh (x : HOk P w H h) (e : h.objs.size ≤ a) : H a = none := by
  cases q : H a with
  | none => rfl
  | some u => exact absurd (Nat.lt_of_lt_of_le (x.lt q) e) (Nat.lt_irrefl _)
theorem HOk.kept (x : HOk P w H h) (k : ∀ b u, h.get? b = some u → h'.get? b = some u) : HOk P w H h' := fun a o e =>
  (x a o e).stay (fun b u _ q => k b u q) (fun _ q => q) fun _ _ q => q
theorem HOk.laid (x : HOk P w H h) (k : ∀ b u, h.get? b = some u → h'.get? b = some u) (hp : h.objs.size ≤ a) (new : xc P w (upd H a o) h' a o) : HOk P w (upd H a o) h' := fun b u e => by
  have hn := x.fresh hp
  by_cases hb : b = a
  · subst hb; rw [zX] at e; cases e; exact new
  · rw [zm hb] at e
    exact (x b u e).stay (fun c v _ q => k c v q) (fun c q => by rw [zm (yU q hn)]; exact q) fun c xs q => by rw [zm (yU q hn)]; exact q
end
noncomputable def Rd (H : Hp) (a : Addr) (u : HO) : Prop := H a = some u ∨ ∃ o, H a = some (.frz o u)
theorem Rd.of {H : Hp} {a : Addr} {u : HO} (h : H a = some u) : Rd H a u := .inl h
theorem Rd.ok {P : Program} {w : World} {H : Hp} {h : Heap} {a : Addr} {u : HO} (r : Rd H a u) (x : HOk P w H h) : xc P w H h a u := by
  rcases r with r | ⟨o, r⟩
  · exact x a u r
  · obtain ⟨_, q⟩ := x a _ r
    exact q
noncomputable def Mut : Option HO → Prop
  | some (.lst _) => True
  | some (.dK _) => True
  | some (.dT _) => True
  | some (.set _ _) => True
  | some (.ins _ _ _) => True
  | some (.ext _) => True
  | _ => False
section
variable {P : Program} {w : World} {H : Hp} {h h' : Heap} {x e : Addr} {o' : HO}
theorem HOk.write (ok : HOk P w H h) (mu : Mut (H x)) (he : e = x ∨ H e = some (.own x)) (k : ∀ b u, b ≠ e → h.get? b = some u → h'.get? b = some u) (heo : ∃ u, h'.get? e = some u)
    (new : xc P w (upd H x o') h' x o') : HOk P w (upd H x o') h' := fun b u q => by
  have nown : ∀ c y, H c = some (.own y) → c ≠ x := fun c y r z => by subst z; rw [r] at mu; exact mu
  have ntup : ∀ c xs, H c = some (.tup xs) → c ≠ x := fun c xs r z => by subst z; rw [r] at mu; exact mu
  by_cases hb : b = x
  · subst hb; rw [zX] at q; cases q; exact new
  · rw [zm hb] at q
    by_cases hbe : b = e
    · have q' : H b = some (.own x) := by
        rcases he with z | z
        · exact absurd (hbe.trans z) hb
        · rw [hbe]; exact z
      rw [q] at q'; cases q'
      obtain ⟨v, hv⟩ := heo
      exact ⟨v, by rw [hbe]; exact hv⟩
    · refine (ok b u q).stay (fun c v hc r => k c v ?_ r) (fun c r => by rw [zm (nown c b r)]; exact r) fun c xs r => by rw [zm (ntup c xs r)]; exact r
      rcases hc with rfl | hc
      · exact hbe
      · rintro rfl
        rcases he with z | z
        · exact nown c b hc z
        · rw [hc] at z; cases z; exact hb rfl
end
structure Un (fs ex : List Addr) (H H' : Hp) (h h' : Heap) : Prop where
  keep : ∀ b o, h.get? b = some o → H b = none → b ∉ fs → b ∉ ex → h'.get? b = some o
  slot : ∀ b o, h.get? b = some o → H b = none → b ∈ fs → b ∉ ex → ∃ sl, h'.get? b = some { o with slots := sl }
  free : ∀ b o, h.get? b = some o → H b = none → b ∉ ex → H' b = none
  there : ∀ b o, h.get? b = some o → b ∉ ex → ∃ o', h'.get? b = some o'
  tups : ∀ b xs, H b = some (.tup xs) → H' b = some (.tup xs)
  frzs : ∀ b o u, H b = some (.frz o u) → H' b = some (.frz o u)
  tbls : ∀ b ps, H b = some (.tbl ps) → ∃ more, H' b = some (.tbl (ps ++ more))
section
variable {fs fs' ex ex' : List Addr} {H H1 H2 : Hp} {h h1 h2 h' : Heap} {a x e : Addr} {o : HO}
theorem Un.any (u : Un fs ex H H1 h h1) {b : Addr} {ob : Obj} (q : h.get? b = some ob) (n : H b = none) (hx : b ∉ ex) : ∃ sl, h1.get? b = some { ob with slots := sl } := by
  by_cases hb : b ∈ fs
  · exact u.slot b ob q n hb hx
  · exact ⟨ob.slots, u.keep b ob q n hb hx⟩
theorem Un.trans (a : Un fs ex H H1 h h1) (b : Un fs ex H1 H2 h1 h2) : Un fs ex H H2 h h2 where
  keep := fun c ob q n hc hx => b.keep c ob (a.keep c ob q n hc hx) (a.free c ob q n hx) hc hx
  slot := fun c ob q n hc hx => by
    obtain ⟨sl, e1⟩ := a.slot c ob q n hc hx
    obtain ⟨sl', e2⟩ := b.slot c _ e1 (a.free c ob q n hx) hc hx
    exact ⟨sl', e2⟩
  free := fun c ob q n hx => by
    obtain ⟨o', e1⟩ := a.there c ob q hx
    exact b.free c o' e1 (a.free c ob q n hx) hx
  there := fun c ob q hx => by
    obtain ⟨o', e1⟩ := a.there c ob q hx
    exact b.there c o' e1 hx
  tups := fun c xs q => b.tups c xs (a.tups c xs q)
  frzs := fun c ob xs q => b.frzs c ob xs (a.frzs c ob xs q)
  tbls := fun c ps q => by
    obtain ⟨m1, e1⟩ := a.tbls c ps q
    obtain ⟨m2, e2⟩ := b.tbls c _ e1
    exact ⟨m1 ++ m2, by rw [e2, Array.append_assoc]⟩
theorem Un.kept (k : ∀ b u, h.get? b = some u → h'.get? b = some u) : Un fs ex H H h h' :=
  ⟨fun b ob q _ _ _ => k b ob q, fun b ob q _ _ _ => ⟨ob.slots, k b ob q⟩, fun _ _ _ n _ => n, fun b ob q _ => ⟨ob, k b ob q⟩, fun _ _ q => q, fun _ _ _ q => q, fun _ ps q => ⟨#[], by rw [q]; simp⟩⟩
theorem Un.refl : Un fs ex H H h h := Un.kept fun _ _ q => q
theorem Un.laid (k : ∀ b u, h.get? b = some u → h'.get? b = some u) (hp : h.objs.size ≤ a) (hn : H a = none) : Un fs ex H (upd H a o) h h' where
  keep := fun b u q _ _ _ => k b u q
  slot := fun b u q _ _ _ => ⟨u.slots, k b u q⟩
  free := fun b u q n _ => by rw [zm (Nat.ne_of_lt (Nat.lt_of_lt_of_le (Heap.lt_size q) hp))]; exact n
  there := fun b u q _ => ⟨u, k b u q⟩
  tups := fun b xs q => by rw [zm (yU q hn)]; exact q
  frzs := fun b u xs q => by rw [zm (yU q hn)]; exact q
  tbls := fun b ps q => ⟨#[], by rw [zm (yU q hn), q]; simp⟩
theorem Un.write (mu : Mut (H x)) (he : e = x ∨ H e = some (.own x)) (k : ∀ b u, b ≠ e → h.get? b = some u → h'.get? b = some u) (heo : ∃ u, h'.get? e = some u) : Un fs ex H (upd H x o) h h' := by
  have hx : ∀ b, H b = none → b ≠ x := fun b n z => by subst z; rw [n] at mu; exact mu
  have hb : ∀ b, H b = none → b ≠ e := fun b n z => by
    subst z
    rcases he with r | r
    · exact hx b n r
    · rw [n] at r; cases r
  have hm : ∀ b u, H b = some u → ¬ Mut (some u) → b ≠ x := fun b u q nm z => by subst z; rw [q] at mu; exact nm mu
  refine ⟨fun b u q n _ _ => k b u (hb b n) q, fun b u q n _ _ => ⟨u.slots, k b u (hb b n) q⟩, fun b u q n _ => by rw [zm (hx b n)]; exact n, fun b u q _ => ?_,
    fun b xs q => by rw [zm (hm b _ q fun z => z)]; exact q, fun b u xs q => by rw [zm (hm b _ q fun z => z)]; exact q, fun b ps q => ⟨#[], by rw [zm (hm b _ q fun z => z), q]; simp⟩⟩
  by_cases hbe : b = e
  · subst hbe; exact heo
  · exact ⟨u, k b u hbe q⟩
theorem Un.mono (u : Un fs ex H H1 h h1) (hs : ∀ b ∈ fs, b ∈ fs') (hx : ∀ b ∈ ex, b ∈ ex') : Un fs' ex' H H1 h h1 :=
  ⟨fun b ob q n hb he => u.keep b ob q n (fun z => hb (hs b z)) fun z => he (hx b z), fun _ _ q n _ he => u.any q n fun z => he (hx _ z), fun b ob q n he => u.free b ob q n fun z => he (hx b z), fun b ob q he => u.there b ob q fun z => he (hx b z), u.tups, u.frzs, u.tbls⟩
end
noncomputable def trk (h : Heap) (H : Hp) : List Addr := (List.range h.objs.size).filter fun a => (H a).isSome
noncomputable def qQ (h : Heap) (H : Hp) : Heap := PySem.W.hideAll h (trk h H)
theorem QC (h : Heap) (H : Hp) : (qQ h H).objs.size = h.objs.size := PySem.W.hideAll_size _ _
theorem Jy {h : Heap} {H : Hp} {b : Addr} {o : Obj} (e : h.get? b = some o) (n : H b = none) : (qQ h H).get? b = some o :=
  PySem.W.hideAll_get _ e fun hm => by
    have q : (H b).isSome = true := (List.mem_filter.mp hm).2
    rw [n] at q; simp at q
theorem zaI {h : Heap} {H : Hp} {b : Addr} {o : Obj} (e : (qQ h H).get? b = some o) : h.get? b = some o ∧ H b = none := by
  have e' : h.get? b = some o := PySem.W.of_hideAll (trk h H) e
  refine ⟨e', ?_⟩
  cases q : H b with
  | none => rfl
  | some x =>
    have hm : b ∈ trk h H := List.mem_filter.mpr ⟨List.mem_range.mpr (Heap.lt_size e'), by simp [q]⟩
    have z : (qQ h H).get? b = none := PySem.W.hideAll_none (trk h H) hm
    rw [z] at e; cases e
noncomputable def zaJ (g h : Heap) (L : Addr) : List (Addr × Obj) := (List.range h.objs.size).filterMap fun a => if a = L ∨ (g.get? a).isSome = true then none else (h.get? a).map fun o => (a, o)
noncomputable def xQ (g h : Heap) (L d : Addr) : List (Addr × Obj) := (zaJ g h L).filter fun p => decide (p.1 ≠ d)
end L2
namespace L2
open PySem PySem.Spec PyProof.Rows
structure Mod (K : PySem.W.Frag) (mg : Str → Option Value) (base : Heap) : Prop where
  kin : K.In base
  glob : base.Ns mainGlobals mg
  blt : ∃ mb, base.Ns builtinsNs mb ∧ ∀ x : Str, x ≠ "__name__" → mb x = bootBuiltins x
  nolimit : base.NoLimit
structure Cx where
  prog : Program
  w : World
  K : PySem.W.Frag
  mg : Str → Option Value
  base : Heap
  A : Around
  N : List Str
  s₀ : Shared
  H₀ : Hp
  env : Env
  outer : List Env
  stack : List Env
  ex : List Addr
  fn : Str → Bool
  calm : Bool
  pn : List (Addr × Obj)
  xe : Value → Shared → Prop
noncomputable def frs (l : List Env) : List Addr := l.filterMap (·.frame)
noncomputable abbrev Cx.fs (X : Cx) : List Addr := frs X.outer
noncomputable def Vis (sc : Scope) (x : Str) : Prop := sc.names.lookup x = some .local ∨ sc.names.lookup x = some .cell ∨ sc.names.lookup x = some .free
noncomputable def Loc (sc : Scope) (x : Str) : Prop := sc.names.lookup x = some .local ∨ sc.names.lookup x = some .cell
noncomputable def Look (env : Env) (h : Heap) (m : Str → Option Value) (x : Str) (u : Value) : Prop :=
  (env.kindOf x = some .local ∧ m x = some u) ∨ ((env.kindOf x = some .cell ∨ env.kindOf x = some .free) ∧ ∃ c, env.cells.lookup x = some c ∧ h.IsCell c (some u))
structure Cx.Ok (X : Cx) : Prop where
  mod : Mod X.K X.mg X.base
  kind : X.env.scope.kind = .function
  glob : X.env.globals = mainGlobals
  blt : X.env.builtins = builtinsNs
  above : X.s₀.heap.objs.size ≤ X.env.locals
  inj : ∀ x y c, X.env.cells.lookup x = some c → X.env.cells.lookup y = some c → x = y
  has : ∀ x, (X.env.kindOf x = some .cell ∨ X.env.kindOf x = some .free) → ∃ c, X.env.cells.lookup x = some c
  cab : ∀ x c, X.fn x = true → X.env.cells.lookup x = some c → X.s₀.heap.objs.size ≤ c
  hd : X.calm = true → X.A.handled = none
  frames : X.A.frames = some X.stack
  stk : X.stack = X.outer ∨ (X.stack = X.env :: X.outer ∧ X.env.frame = some X.env.locals)
  exf : ∀ b ∈ X.ex, b ≠ X.env.locals ∧ ∀ x c, X.env.cells.lookup x = some c → c ≠ b
  bs : ∀ b o, X.base.get? b = some o → X.s₀.heap.get? b = some o ∧ X.H₀ b = none
  bsz : X.base.objs.size ≤ X.s₀.heap.objs.size
  noex : ∀ b o, X.base.get? b = some o → b ∉ X.ex
  exfs : ∀ b ∈ X.ex, b ∉ X.fs
  funs : X.s₀.heap.FunFrames X.base X.outer
  frf : ∀ b ∈ X.fs, X.H₀ b = none
structure Inv (X : Cx) (pins : List (Addr × Obj)) (σ : List (Option V)) (H : Hp) (s : Shared) : Prop where
  ok : X.Ok
  os : s.os = X.s₀.os
  bare : AllBare s.gens
  base : Un X.fs X.ex X.H₀ H X.s₀.heap s.heap
  loc : ∃ m, s.heap.Ns X.env.locals m ∧ ∀ (i : Nat) (x : Str) (v : V), X.N[i]? = some x → σ[i]? = some (some v) → Vis X.env.scope x → ∃ u, RelV v u ∧ Look X.env s.heap m x u
  cell : ∀ x c, X.env.cells.lookup x = some c → ∃ v, s.heap.IsCell c v
  free : H X.env.locals = none
  freeC : ∀ x c, X.env.cells.lookup x = some c → H c = none
  pin : ∀ p ∈ X.pn ++ pins, s.heap.get? p.1 = some p.2 ∧ H p.1 = none ∧ p.1 ≠ X.env.locals ∧ p.1 ∉ X.fs ∧ ∀ v, p.2.data ≠ .cell v
  hok : HOk X.prog X.w H s.heap
  len : σ.length = X.N.length
section
variable {X : Cx} {pins : List (Addr × Obj)} {σ : List (Option V)} {H H' : Hp} {s : Shared} {h' : Heap}
theorem Cx.Ok.nofr (ok : X.Ok) {b : Addr} {o : Obj} (e : X.base.get? b = some o) : b ∉ X.fs := fun hb => by
  have := (ok.funs.mem hb).1
  rw [e] at this; cases this
theorem Inv.bs (I : Inv X pins σ H s) : ∀ b o, X.base.get? b = some o → s.heap.get? b = some o ∧ H b = none := fun b o e =>
  ⟨I.base.keep b o (I.ok.bs b o e).1 (I.ok.bs b o e).2 (I.ok.nofr e) (I.ok.noex b o e), I.base.free b o (I.ok.bs b o e).1 (I.ok.bs b o e).2 (I.ok.noex b o e)⟩
theorem Inv.bk (I : Inv X pins σ H s) : ∀ b o, X.base.get? b = some o → s.heap.get? b = some o := fun b o e => (I.bs b o e).1
theorem Inv.mod (I : Inv X pins σ H s) : Mod X.K X.mg X.base := I.ok.mod
theorem Inv.kIn (I : Inv X pins σ H s) : X.K.In s.heap := I.ok.mod.kin.keeps I.bk
theorem Inv.nolimit (I : Inv X pins σ H s) : s.heap.NoLimit := I.ok.mod.nolimit.keeps I.bk
theorem Inv.fr (I : Inv X pins σ H s) : ∃ m, Fr X.base X.env.locals s.heap m :=
  let ⟨m, hn, _⟩ := I.loc
  ⟨m, hn, I.bk, Nat.le_trans I.ok.bsz I.ok.above⟩
theorem Inv.lt (I : Inv X pins σ H s) : X.env.locals < s.heap.objs.size := let ⟨_, hn, _⟩ := I.loc; hn.lt
theorem Inv.sz (I : Inv X pins σ H s) : X.s₀.heap.objs.size ≤ s.heap.objs.size := Nat.le_trans I.ok.above (Nat.le_of_lt I.lt)
theorem Inv.nofs (I : Inv X pins σ H s) {a : Addr} (h : s.heap.objs.size ≤ a) : a ∉ X.fs := fun hb => by
  obtain ⟨_, o, ho, _⟩ := I.ok.funs.mem hb
  exact absurd (Nat.lt_of_lt_of_le (Heap.lt_size ho) (Nat.le_trans I.sz h)) (Nat.lt_irrefl _)
theorem Inv.cne (I : Inv X pins σ H s) : ∀ x c, X.env.cells.lookup x = some c → c ≠ X.env.locals := fun x c e z => by
  obtain ⟨v, o, ho, hd⟩ := I.cell x c e
  obtain ⟨m, ⟨o', es, ep, ho', hd', _⟩, _⟩ := I.loc
  rw [z, ho'] at ho; cases ho; rw [hd'] at hd; cases hd
theorem Inv.funs (I : Inv X pins σ H s) : s.heap.FunFrames X.base X.outer := by
  have all : ∀ (l : List Env), (∀ b ∈ frs l, b ∈ X.fs) → X.s₀.heap.FunFrames X.base l → s.heap.FunFrames X.base l := by
    intro l
    induction l with
    | nil => intro _ _; trivial
    | cons env r ih =>
      intro hs hl
      obtain ⟨hk, ⟨L, o, hf, hn, ho, hd⟩, hr⟩ := hl
      have hL : L ∈ X.fs := hs L (by unfold frs; rw [List.filterMap_cons, hf]; exact List.mem_cons_self)
      obtain ⟨sl, e⟩ := I.base.slot L o ho (I.ok.frf L hL) hL fun z => I.ok.exfs L z hL
      exact ⟨hk, ⟨L, _, hf, hn, e, hd⟩, ih (fun b hb => hs b (by unfold frs; rw [List.filterMap_cons, hf]; exact List.mem_cons_of_mem _ hb)) hr⟩
  exact all X.outer (fun _ hb => hb) I.ok.funs
theorem Inv.stack (I : Inv X pins σ H s) : s.heap.FunFrames X.base X.stack := by
  rcases I.ok.stk with e | ⟨e, hf⟩
  · rw [e]; exact I.funs
  · rw [e]
    obtain ⟨m, hn, _⟩ := I.loc
    refine .cons (by rw [I.ok.kind]; decide) hf hn ?_ I.funs
    exact Heap.get?_none_of_le (Nat.le_trans I.ok.bsz I.ok.above)
theorem Inv.stkSub (I : Inv X pins σ H s) : ∀ b ∈ frs X.stack, b ∈ X.env.locals :: X.fs := fun b hb => by
  rcases I.ok.stk with e | ⟨e, hf⟩
  · rw [e] at hb; exact List.mem_cons_of_mem _ hb
  · rw [e] at hb
    unfold frs at hb
    rw [List.filterMap_cons, hf] at hb
    exact hb
theorem Inv.stkFree (I : Inv X pins σ H s) : ∀ b ∈ frs X.stack, H b = none := fun b hb => by
  rcases List.mem_cons.mp (I.stkSub b hb) with e | hb
  · rw [e]; exact I.free
  · obtain ⟨_, o, ho, _⟩ := I.ok.funs.mem hb
    exact I.base.free b o ho (I.ok.frf b hb) fun z => I.ok.exfs b z hb
theorem Inv.step {g' : Array GenState} {t' : Nat} {d' : Drawn} {ch : List Addr} (I : Inv X pins σ H s)
    (hch : ∀ b ∈ ch, (b ∈ X.ex ∨ X.s₀.heap.objs.size ≤ b) ∧ b ≠ X.env.locals ∧ (∀ x c, X.env.cells.lookup x = some c → c ≠ b) ∧ ∀ p ∈ X.pn ++ pins, p.1 ≠ b)
    (keep : ∀ b o, b ≠ X.env.locals → b ∉ X.fs → b ∉ ch → s.heap.get? b = some o → H b = none → h'.get? b = some o)
    (slot : ∀ b o, b ≠ X.env.locals → b ∈ X.fs → b ∉ ch → s.heap.get? b = some o → H b = none → ∃ sl, h'.get? b = some { o with slots := sl }) (free : ∀ b o, b ∉ ch → s.heap.get? b = some o → H b = none → H' b = none)
    (there : ∀ b o, b ∉ ch → s.heap.get? b = some o → ∃ o', h'.get? b = some o')
    (tups : ∀ b xs, H b = some (.tup xs) → H' b = some (.tup xs)) (frzs : ∀ b o u, H b = some (.frz o u) → H' b = some (.frz o u)) (tbls : ∀ b ps, H b = some (.tbl ps) → ∃ more, H' b = some (.tbl (ps ++ more)))
    (ns : ∀ m, s.heap.Ns X.env.locals m → h'.Ns X.env.locals m) (hok : HOk X.prog X.w H' h') (hg : AllBare g') :
    Inv X pins σ H' { s with heap := h', gens := g', drawn := d', toks := t' } := by
  have neL : ∀ b o, X.s₀.heap.get? b = some o → b ≠ X.env.locals := fun b o e => Nat.ne_of_lt (Nat.lt_of_lt_of_le (Heap.lt_size e) I.ok.above)
  have neC : ∀ b o, X.s₀.heap.get? b = some o → b ∉ X.ex → b ∉ ch := fun b o e hx hb => by
    rcases (hch b hb).1 with z | z
    · exact hx z
    · exact absurd (Nat.lt_of_lt_of_le (Heap.lt_size e) z) (Nat.lt_irrefl _)
  have cellK : ∀ x c, X.env.cells.lookup x = some c → ∀ v, s.heap.IsCell c v → h'.IsCell c v := fun x c e v ⟨o, ho, hd⟩ => by
    have nch : c ∉ ch := fun z => (hch c z).2.2.1 x c e rfl
    by_cases hc : c ∈ X.fs
    · obtain ⟨sl, q⟩ := slot c o (I.cne x c e) hc nch ho (I.freeC x c e)
      exact ⟨_, q, hd⟩
    · exact ⟨o, keep c o (I.cne x c e) hc nch ho (I.freeC x c e), hd⟩
  refine ⟨I.ok, I.os, hg, ⟨fun b o e n hb hx => ?_, fun b o e n hb hx => ?_, fun b o e n hx => ?_, fun b o e hx => ?_, fun b xs e => tups b xs (I.base.tups b xs e), fun b o xs e => frzs b o xs (I.base.frzs b o xs e), fun b ps e => ?_⟩, ?_, fun x c e => ?_, ?_, fun x c e => ?_, fun p hp => ?_, hok, I.len⟩
  · exact keep b o (neL b o e) hb (neC b o e hx) (I.base.keep b o e n hb hx) (I.base.free b o e n hx)
  · obtain ⟨sl, e1⟩ := I.base.slot b o e n hb hx
    obtain ⟨sl', e2⟩ := slot b _ (neL b o e) hb (neC b o e hx) e1 (I.base.free b o e n hx)
    exact ⟨sl', e2⟩
  · obtain ⟨o', e1⟩ := I.base.there b o e hx
    exact free b o' (neC b o e hx) e1 (I.base.free b o e n hx)
  · obtain ⟨o', e1⟩ := I.base.there b o e hx
    exact there b o' (neC b o e hx) e1
  · obtain ⟨m1, e1⟩ := I.base.tbls b ps e
    obtain ⟨m2, e2⟩ := tbls b _ e1
    exact ⟨m1 ++ m2, by rw [e2, Array.append_assoc]⟩
  · obtain ⟨m, hn, hl⟩ := I.loc
    refine ⟨m, ns m hn, fun i x v e1 e2 e3 => ?_⟩
    obtain ⟨u, r, l⟩ := hl i x v e1 e2 e3
    refine ⟨u, r, ?_⟩
    rcases l with l | ⟨k, c, e, z⟩
    · exact .inl l
    · exact .inr ⟨k, c, e, cellK x c e _ z⟩
  · obtain ⟨v, z⟩ := I.cell x c e
    exact ⟨v, cellK x c e v z⟩
  · obtain ⟨m, ⟨o, _, _, ho, _⟩, _⟩ := I.loc
    exact free _ o (fun z => (hch _ z).2.1 rfl) ho I.free
  · obtain ⟨v, o, ho, hd⟩ := I.cell x c e
    exact free c o (fun z => (hch c z).2.2.1 x c e rfl) ho (I.freeC x c e)
  · obtain ⟨e, n, ne, nf, d⟩ := I.pin p hp
    have nch : p.1 ∉ ch := fun z => (hch p.1 z).2.2.2 p hp rfl
    exact ⟨keep p.1 p.2 ne nf nch e n, free p.1 p.2 nch e n, ne, nf, d⟩
theorem Inv.un {t' : Nat} (I : Inv X pins σ H s) (u : Un X.fs [] H H' s.heap h') (hok : HOk X.prog X.w H' h') : Inv X pins σ H' { s with heap := h', toks := t' } := by
  obtain ⟨m, ⟨o, es, ep, ho, r⟩, _⟩ := id I.loc
  obtain ⟨sl, hL⟩ := u.any ho I.free (by simp)
  exact I.step (g' := s.gens) (d' := s.drawn) (ch := []) (fun _ z => nomatch z) (fun b o _ hb _ e n => u.keep b o e n hb (by simp)) (fun b o _ hb _ e n => u.slot b o e n hb (by simp)) (fun b o _ e n => u.free b o e n (by simp)) (fun b o _ e => u.there b o e (by simp)) u.tups u.frzs u.tbls (fun m' hm => by
    obtain ⟨o', es', ep', ho', r'⟩ := hm
    rw [ho] at ho'; cases ho'
    exact ⟨_, es', ep', hL, r'⟩) hok I.bare
theorem Inv.call {g' : Array GenState} {t' : Nat} {d' : Drawn} {ch : List Addr} (I : Inv X pins σ H s) (u : Un (frs X.stack) ch H H' s.heap h') (hok : HOk X.prog X.w H' h') (hg : AllBare g')
    (hch : ∀ b ∈ ch, (b ∈ X.ex ∨ X.s₀.heap.objs.size ≤ b) ∧ b ≠ X.env.locals ∧ (∀ x c, X.env.cells.lookup x = some c → c ≠ b) ∧ ∀ p ∈ X.pn ++ pins, p.1 ≠ b) :
    Inv X pins σ H' { s with heap := h', gens := g', drawn := d', toks := t' } := by
  obtain ⟨m, ⟨o, es, ep, ho, r⟩, _⟩ := id I.loc
  obtain ⟨sl, hL⟩ := u.any ho I.free fun z => (hch _ z).2.1 rfl
  exact I.step (ch := ch) hch (fun b o hL hb hc e n => u.keep b o e n (fun z => (List.mem_cons.mp (I.stkSub b z)).elim hL hb) hc) (fun b o _ _ hc e n => u.any e n hc) (fun b o hc e n => u.free b o e n hc) (fun b o hc e => u.there b o e hc) u.tups u.frzs u.tbls (fun m' hm => by
    obtain ⟨o', es', ep', ho', r'⟩ := hm
    rw [ho] at ho'; cases ho'
    exact ⟨_, es', ep', hL, r'⟩) hok hg
theorem Inv.turned {t' : Nat} {it : Addr} (I : Inv X pins σ H s) (k : ∀ b o, b ≠ it → s.heap.get? b = some o → h'.get? b = some o) (hn : H it = none) (hL : it ≠ X.env.locals)
    (h1 : it ∈ X.ex ∨ X.s₀.heap.objs.size ≤ it) (h2 : ∀ x c, X.env.cells.lookup x = some c → c ≠ it) (h3 : ∀ p ∈ X.pn ++ pins, p.1 ≠ it) : Inv X pins σ H { s with heap := h', toks := t' } := by
  have nit : ∀ b u, H b = some u → b ≠ it := fun b u e z => by rw [z, hn] at e; cases e
  refine I.step (g' := s.gens) (d' := s.drawn) (ch := [it]) (fun b hb => ?_) (fun b o _ _ hc e _ => k b o (fun z => hc (by simp [z])) e) (fun b o _ _ hc e _ => ⟨o.slots, k b o (fun z => hc (by simp [z])) e⟩) (fun _ _ _ _ n => n)
    (fun b o hc e => ⟨o, k b o (fun z => hc (by simp [z])) e⟩) (fun _ _ e => e) (fun _ _ _ e => e) (fun b ps e => ⟨#[], by rw [e]; simp⟩) (fun m hm => ?_) (fun b u e => ?_) I.bare
  · have e : b = it := by simpa using hb
    subst e
    exact ⟨h1, hL, h2, h3⟩
  · obtain ⟨o, es, ep, ho, r⟩ := hm
    exact ⟨o, es, ep, k _ o (Ne.symm hL) ho, r⟩
  · refine (I.hok b u e).stay (fun c v hc q => k c v ?_ q) (fun _ q => q) fun _ _ q => q
    rcases hc with z | z
    · rw [z]; exact nit b u e
    · exact nit c _ z
theorem Inv.tok (I : Inv X pins σ H s) (t : Nat) : Inv X pins σ H { s with toks := t } := I.un (h' := s.heap) (t' := t) Un.refl I.hok
theorem Inv.kept {t' : Nat} (I : Inv X pins σ H s) (k : ∀ b u, s.heap.get? b = some u → h'.get? b = some u) : Inv X pins σ H { s with heap := h', toks := t' } := I.un (Un.kept k) (I.hok.kept k)
theorem Inv.laid {a : Addr} {o : HO} {t' : Nat} (I : Inv X pins σ H s) (k : ∀ b u, s.heap.get? b = some u → h'.get? b = some u) (hp : s.heap.objs.size ≤ a) (new : xc X.prog X.w (upd H a o) h' a o) :
    Inv X pins σ (upd H a o) { s with heap := h', toks := t' } := I.un (Un.laid k hp (I.hok.fresh hp)) (I.hok.laid k hp new)
theorem Inv.write {x e : Addr} {o : HO} {t' : Nat} (I : Inv X pins σ H s) (mu : Mut (H x)) (he : e = x ∨ H e = some (.own x)) (k : ∀ b u, b ≠ e → s.heap.get? b = some u → h'.get? b = some u) (heo : ∃ u, h'.get? e = some u)
    (new : xc X.prog X.w (upd H x o) h' x o) : Inv X pins σ (upd H x o) { s with heap := h', toks := t' } := I.un (Un.write mu he k heo) (I.hok.write mu he k heo new)
theorem Inv.weak {σ' : List (Option V)} (I : Inv X pins σ H s) (hl : σ'.length = σ.length) (w : ∀ (i : Nat) v, σ'[i]? = some (some v) → σ[i]? = some (some v)) : Inv X pins σ' H s :=
  ⟨I.ok, I.os, I.bare, I.base, let ⟨m, hn, hl'⟩ := I.loc; ⟨m, hn, fun i x v e1 e2 e3 => hl' i x v e1 (w i v e2) e3⟩, I.cell, I.free, I.freeC, I.pin, I.hok, hl.trans I.len⟩
theorem Inv.pins_of {pins' : List (Addr × Obj)} (I : Inv X pins σ H s) (h : ∀ p ∈ pins', s.heap.get? p.1 = some p.2 ∧ H p.1 = none ∧ p.1 ≠ X.env.locals ∧ p.1 ∉ X.fs ∧ ∀ v, p.2.data ≠ .cell v) : Inv X pins' σ H s :=
  ⟨I.ok, I.os, I.bare, I.base, I.loc, I.cell, I.free, I.freeC, fun p hp => (List.mem_append.mp hp).elim (fun z => I.pin p (List.mem_append_left _ z)) (h p), I.hok, I.len⟩
theorem Y4 {N : List Str} (hN : N.Nodup) {i j : Nat} {x : Str} (a : N[i]? = some x) (b : N[j]? = some x) : i = j := by
  obtain ⟨h1, e1⟩ := List.getElem?_eq_some_iff.mp a
  obtain ⟨h2, e2⟩ := List.getElem?_eq_some_iff.mp b
  exact (List.getElem_inj hN).mp (e1.trans e2.symm)
theorem Yl {M : Model} {A : Around} {E : Value → Shared → Prop} {i : Nat} {x : Str} {v : V} {u : Value} {Q : Unit → Shared → Prop} (I : Inv X pins σ H s) (hN : X.N.Nodup) (hi : X.N[i]? = some x) (hx : Loc X.env.scope x) (r : RelV v u)
    (h : ∀ s', Inv X pins (σ.set i (some v)) H s' → (∃ a, Heap.SameBut a s.heap s'.heap ∧ (a = X.env.locals ∨ X.env.cells.lookup x = some a)) → Q () s') (hf : X.fn x = true ∨ X.env.scope.names.lookup x = some .local := by first | exact .inl rfl | exact .inr rfl | assumption) : wpAny M A (storeName X.env x u) Q E s := by
  obtain ⟨m, hn, hl⟩ := id I.loc
  have hcls : (X.env.scope.kind == .class || (X.env.scope.kind == .module && X.env.locals != X.env.globals)) = false := by rw [I.ok.kind]; rfl
  have hiσ : i < σ.length := by rw [I.len]; exact (List.getElem?_eq_some_iff.mp hi).1
  have cne := I.cne
  have tracked : ∀ {a : Addr} {h' : Heap}, (∃ o, s.heap.get? a = some o ∧ H a = none) → Heap.SameBut a s.heap h' → HOk X.prog X.w H h' := fun {a h'} ha hs b ob e => by
    obtain ⟨_, _, hfree⟩ := ha
    refine (I.hok b ob e).stay (fun c w' hc q => (hs.2 c ?_).trans q) (fun _ q => q) fun _ _ q => q
    rintro rfl
    rcases hc with rfl | hc
    · rw [hfree] at e; cases e
    · rw [hfree] at hc; cases hc
  rcases hx with hk | hk
  · refine wpAny_storeName_local hk hn (fun h' hn' hs => ?_) hcls
    obtain ⟨oL, _, _, hoL, _⟩ := id hn
    refine h _ ⟨I.ok, I.os, I.bare, ⟨fun b o e n hb hx => ?_, fun b o e n hb hx => ?_, I.base.free, fun b o e hx => ?_, I.base.tups, I.base.frzs, I.base.tbls⟩, ⟨_, hn', fun j y v' e1 e2 e3 => ?_⟩, fun y c e => ?_, I.free, I.freeC, fun p hp => ?_, tracked ⟨oL, hoL, I.free⟩ hs, by simpa using I.len⟩ ⟨_, hs, .inl rfl⟩
    · exact (hs.2 b (Nat.ne_of_lt (Nat.lt_of_lt_of_le (Heap.lt_size e) I.ok.above))).trans (I.base.keep b o e n hb hx)
    · obtain ⟨sl, e1⟩ := I.base.slot b o e n hb hx
      exact ⟨sl, (hs.2 b (Nat.ne_of_lt (Nat.lt_of_lt_of_le (Heap.lt_size e) I.ok.above))).trans e1⟩
    · obtain ⟨o', e1⟩ := I.base.there b o e hx
      exact ⟨o', (hs.2 b (Nat.ne_of_lt (Nat.lt_of_lt_of_le (Heap.lt_size e) I.ok.above))).trans e1⟩
    · by_cases hj : j = i
      · subst hj
        rw [hi] at e1; cases e1
        rw [List.getElem?_set_self hiσ] at e2
        cases e2
        exact ⟨u, r, .inl ⟨hk, by simp⟩⟩
      · rw [List.getElem?_set_ne (Ne.symm hj)] at e2
        obtain ⟨u', r', q⟩ := hl j y v' e1 e2 e3
        refine ⟨u', r', ?_⟩
        rcases q with ⟨k, e⟩ | ⟨k, c, e, z⟩
        · refine .inl ⟨k, ?_⟩
          have : y ≠ x := fun e => hj (Y4 hN e1 (e ▸ hi))
          simp [this, e]
        · exact .inr ⟨k, c, e, z.sameBut hs (cne y c e)⟩
    · obtain ⟨w', z⟩ := I.cell y c e
      exact ⟨w', z.sameBut hs (cne y c e)⟩
    · obtain ⟨e, n, ne, nf, d⟩ := I.pin p hp
      exact ⟨(hs.2 p.1 ne).trans e, n, ne, nf, d⟩
  · have hfn : X.fn x = true := by
      rcases hf with z | z
      · exact z
      · rw [z] at hk; cases hk
    obtain ⟨c, hc⟩ := I.ok.has x (.inl hk)
    obtain ⟨w', z⟩ := I.cell x c hc
    refine wpAny_storeName_cell I.ok.kind hk hc z (fun h' hc' hs => ?_)
    obtain ⟨oc, hoc, hocd⟩ := id z
    refine h { s with heap := h' } ⟨I.ok, I.os, I.bare, ⟨fun b o e n hb hx => ?_, fun b o e n hb hx => ?_, I.base.free, fun b o e hx => ?_, I.base.tups, I.base.frzs, I.base.tbls⟩, ⟨m, hn.sameBut hs (Ne.symm (cne x c hc)), fun j y v' e1 e2 e3 => ?_⟩, fun y c' e => ?_, I.free, I.freeC, fun p hp => ?_, tracked ⟨oc, hoc, I.freeC x c hc⟩ hs, by simpa using I.len⟩ ⟨c, hs, .inr hc⟩
    · exact (hs.2 b (Nat.ne_of_lt (Nat.lt_of_lt_of_le (Heap.lt_size e) (I.ok.cab x c hfn hc)))).trans (I.base.keep b o e n hb hx)
    · obtain ⟨sl, e1⟩ := I.base.slot b o e n hb hx
      exact ⟨sl, (hs.2 b (Nat.ne_of_lt (Nat.lt_of_lt_of_le (Heap.lt_size e) (I.ok.cab x c hfn hc)))).trans e1⟩
    · obtain ⟨o', e1⟩ := I.base.there b o e hx
      exact ⟨o', (hs.2 b (Nat.ne_of_lt (Nat.lt_of_lt_of_le (Heap.lt_size e) (I.ok.cab x c hfn hc)))).trans e1⟩
    · by_cases hj : j = i
      · subst hj
        rw [hi] at e1; cases e1
        rw [List.getElem?_set_self hiσ] at e2
        cases e2
        exact ⟨u, r, .inr ⟨.inl hk, c, hc, hc'⟩⟩
      · rw [List.getElem?_set_ne (Ne.symm hj)] at e2
        obtain ⟨u', r', q⟩ := hl j y v' e1 e2 e3
        refine ⟨u', r', ?_⟩
        rcases q with q | ⟨k, c', e, z'⟩
        · exact .inl q
        · refine .inr ⟨k, c', e, z'.sameBut hs ?_⟩
          rintro rfl
          exact hj (Y4 hN e1 (I.ok.inj _ _ _ e hc ▸ hi))
    · by_cases hcc : c' = c
      · subst hcc; exact ⟨_, hc'⟩
      · obtain ⟨w2, z2⟩ := I.cell y c' e
        exact ⟨w2, z2.sameBut hs hcc⟩
    · obtain ⟨e, n, ne, nf, d⟩ := I.pin p hp
      refine ⟨(hs.2 p.1 ?_).trans e, n, ne, nf, d⟩
      intro q
      rw [q, hoc] at e
      have q' : oc = p.2 := Option.some.inj e
      exact d w' (by rw [← q']; exact hocd)
theorem qR {M : Model} {A : Around} {E : Value → Shared → Prop} {i : Nat} {x : Str} {v : V} {u : Value} {Q : Unit → Shared → Prop} (I : Inv X pins σ H s) (hN : X.N.Nodup) (hi : X.N[i]? = some x) (hx : Loc X.env.scope x) (r : RelV v u)
    (h : ∀ s', Inv X pins (σ.set i (some v)) H s' → Q () s') (hf : X.fn x = true ∨ X.env.scope.names.lookup x = some .local := by first | exact .inl rfl | exact .inr rfl | assumption) : wpAny M A (storeName X.env x u) Q E s :=
  Yl I hN hi hx r (fun s' I' _ => h s' I') hf
theorem Inv.call' {s' : Shared} {ch : List Addr} (I : Inv X pins σ H s) (ho : s'.os = s.os) (u : Un (frs X.stack) ch H H' s.heap s'.heap) (hok : HOk X.prog X.w H' s'.heap) (hg : AllBare s'.gens)
    (hch : ∀ b ∈ ch, (b ∈ X.ex ∨ X.s₀.heap.objs.size ≤ b) ∧ b ≠ X.env.locals ∧ (∀ x c, X.env.cells.lookup x = some c → c ≠ b) ∧ ∀ p ∈ X.pn ++ pins, p.1 ≠ b) : Inv X pins σ H' s' := by
  obtain ⟨h', g', d', t', o'⟩ := s'
  have e : o' = s.os := ho
  subst e
  exact I.call (g' := g') (t' := t') (d' := d') u hok hg hch
end
noncomputable abbrev XK := Value → Option Addr → Hp → Prop
noncomputable abbrev St := List (Option V)
noncomputable abbrev VK := V → Hp → Prop
noncomputable abbrev TE := St → Hp → VK → Prop
noncomputable abbrev TT := St → Hp → (Bool → Hp → Prop) → Prop
noncomputable abbrev TA := St → Hp → (List V → Hp → Prop) → Prop
structure Ends where
  nx : St → Hp → Prop
  rt : VK
  bk : St → Hp → Prop := fun _ _ => False
  ct : St → Hp → Prop := fun _ _ => False
noncomputable abbrev TS := Ends → St → Hp → Prop
noncomputable def EP (X : Cx) (pins : List (Addr × Obj)) (σ : St) (Q : VK) (u : Value) (s' : Shared) : Prop := ∃ v H', Inv X pins σ H' s' ∧ RelV v u ∧ Q v H'
noncomputable def TP (X : Cx) (pins : List (Addr × Obj)) (σ : St) (Q : Bool → Hp → Prop) (b : Bool) (s' : Shared) : Prop := ∃ H', Inv X pins σ H' s' ∧ Q b H'
noncomputable def AP (X : Cx) (pins : List (Addr × Obj)) (σ : St) (Q : List V → Hp → Prop) (us : List Value) (s' : Shared) : Prop := ∃ vs H', Inv X pins σ H' s' ∧ Vals vs us ∧ Q vs H'
noncomputable def SP (X : Cx) (pins : List (Addr × Obj)) (D : Ends) (f : Flow) (s' : Shared) : Prop :=
  match f with
  | .next => ∃ σ' H', Inv X pins σ' H' s' ∧ D.nx σ' H'
  | .brk => ∃ σ' H', Inv X pins σ' H' s' ∧ D.bk σ' H'
  | .cont => ∃ σ' H', Inv X pins σ' H' s' ∧ D.ct σ' H'
  | .ret u => ∃ v σ' H', Inv X pins σ' H' s' ∧ RelV v u ∧ D.rt v H'
noncomputable def PE (X : Cx) (e : Expr) (t : TE) : Prop :=
  ∀ (pins : List (Addr × Obj)) (s : Shared) (σ : St) (H : Hp) (Q : VK), Inv X pins σ H s → t σ H Q → wpAny (model X.prog X.w) X.A (eval e X.env) (EP X pins σ Q) X.xe s
noncomputable def PT (X : Cx) (e : Expr) (t : TT) : Prop :=
  ∀ (pins : List (Addr × Obj)) (s : Shared) (σ : St) (H : Hp) (Q : Bool → Hp → Prop), Inv X pins σ H s → t σ H Q → wpAny (model X.prog X.w) X.A (isTrue e X.env (eval e X.env)) (TP X pins σ Q) X.xe s
noncomputable def PW (X : Cx) (e : Expr) (t : TT) : Prop :=
  ∀ (whole : Sem Value) (pins : List (Addr × Obj)) (s : Shared) (σ : St) (H : Hp) (Q : Bool → Hp → Prop), Inv X pins σ H s → t σ H Q → wpAny (model X.prog X.w) X.A (isTrue e X.env whole) (TP X pins σ Q) X.xe s
theorem PW.pt {X : Cx} {e : Expr} {t : TT} (h : PW X e t) : PT X e t := h _
noncomputable def PA (X : Cx) (es : List Expr) (t : TA) : Prop :=
  ∀ (pos : Pos) (pins : List (Addr × Obj)) (s : Shared) (σ : St) (H : Hp) (Q : List V → Hp → Prop), Inv X pins σ H s → t σ H Q → wpAny (model X.prog X.w) X.A (spliced (backTo pos (starEach es X.env))) (AP X pins σ Q) X.xe s
noncomputable def PS (X : Cx) (st : Stmt) (t : TS) : Prop :=
  ∀ (pins : List (Addr × Obj)) (s : Shared) (σ : St) (H : Hp) (D : Ends), Inv X pins σ H s → t D σ H → wpAny (model X.prog X.w) X.A (exec st X.env) (SP X pins D) X.xe s
noncomputable def PSs (X : Cx) (st : List Stmt) (t : TS) : Prop :=
  ∀ (pins : List (Addr × Obj)) (s : Shared) (σ : St) (H : Hp) (D : Ends), Inv X pins σ H s → t D σ H → wpAny (model X.prog X.w) X.A (execs st X.env) (SP X pins D) X.xe s
theorem thn {α : Type} {t : Sem α} {Q Q' : α → Shared → Prop} {M : Model} {A : Around} {E : Value → Shared → Prop} {s : Shared} (h : wpAny M A t Q E s) (hQ : ∀ a s, Q a s → Q' a s) : wpAny M A t Q' E s := wpAny_mono h hQ fun _ _ x => x
end L2
namespace L2
open PySem PySem.Spec PyProof.Rows
section
variable {X : Cx}
noncomputable def Ug (i : Nat) : TE := fun σ H Q => ∃ v, σ[i]? = some (some v) ∧ Q v H
noncomputable def tC (v : V) : TE := fun _ H Q => Q v H
theorem zbT {i : Nat} {x : Str} {pos : Pos} (hN : X.N[i]? = some x) (hv : Vis X.env.scope x) (hd : (x == ("__debug__" : Str)) = false := by decide) (hcd : (x == ("__classdict__" : Str)) = false := by decide) : PE X (.Name x pos) (Ug i) := by
  intro pins s σ H Q I h
  obtain ⟨v, e, h⟩ := h
  obtain ⟨m, hn, hl⟩ := I.loc
  obtain ⟨u, r, l⟩ := hl i x v hN e hv
  have fin : EP X pins σ Q u s := ⟨v, H, I, r, h⟩
  rcases l with ⟨hk, hm⟩ | ⟨hk, c, hc, hcell⟩
  · exact wpAny_Name (wpAny_loadName_local I.ok.kind hk hn hm fin) hd
  · rcases hk with hk | hk
    · exact wpAny_Name (wpAny_loadName_cell I.ok.kind hk hc hcell fin) hd
    · exact wpAny_Name (wpAny_loadName_free I.ok.kind hk hc hcell fin hcd) hd
theorem zc {i j pos} : PE X (.Constant (.int i) j pos) (tC (.int i)) := fun _ _ _ H _ I h => wpAny_Constant_int ⟨.int i, H, I.tok _, ⟨_, rfl⟩, h⟩
theorem yW {b j pos} : PE X (.Constant (.bool b) j pos) (tC (.bl b)) := fun _ _ _ H _ I h => Constant_bool ⟨.bl b, H, I, rfl, h⟩
theorem yZ {j pos} : PE X (.Constant .none j pos) (tC .non) := fun _ _ _ H _ I h => Constant_none ⟨.non, H, I, rfl, h⟩
theorem zd {x j pos} : PE X (.Constant (.str x) j pos) (tC (.str x)) := fun _ _ _ H _ I h => Calls.Constant_str ⟨.str x, H, I.tok _, ⟨_, rfl⟩, h⟩
noncomputable def Gl (X : Cx) (x : Str) : Prop := X.env.kindOf x = some .globalImplicit
theorem ZX {E : Value → Shared → Prop} {pins : List (Addr × Obj)} {s : Shared} {σ : St} {H : Hp} {x : Str} {u : Value} {pos : Pos} {Q : Value → Shared → Prop} (I : Inv X pins σ H s) (hg : Gl X x) (hm : X.mg x = some u) (h : Q u s)
    (hd : (x == ("__debug__" : Str)) = false := by decide) : wpAny (model X.prog X.w) X.A (eval (.Name x pos) X.env) Q E s :=
  Calls.Name_function_global I.ok.kind hg (Calls.loadGlobal_global (by rw [I.ok.glob]; exact I.mod.glob.keeps I.bk) hm h) hd
theorem uA {E : Value → Shared → Prop} {pins : List (Addr × Obj)} {s : Shared} {σ : St} {H : Hp} {x : Str} {u : Value} {pos : Pos} {Q : Value → Shared → Prop} (I : Inv X pins σ H s) (hg : Gl X x) (hm : X.mg x = none) (hv : bootBuiltins x = some u) (h : Q u s)
    (hn : x ≠ "__name__" := by decide) (hd : (x == ("__debug__" : Str)) = false := by decide) : wpAny (model X.prog X.w) X.A (eval (.Name x pos) X.env) Q E s := by
  obtain ⟨mb, h1, h2⟩ := I.mod.blt
  exact Calls.Name_function_global I.ok.kind hg (Calls.loadGlobal_builtin (by rw [I.ok.glob]; exact I.mod.glob.keeps I.bk) hm (by rw [I.ok.blt]; exact h1.keeps I.bk) ((h2 x hn).trans hv) h) hd
theorem ZY {x : Str} {v : V} {u : Value} {pos : Pos} (hg : Gl X x) (hm : X.mg x = some u) (r : RelV v u) (hd : (x == ("__debug__" : Str)) = false := by decide) : PE X (.Name x pos) (tC v) :=
  fun _ _ _ H _ I h => ZX I hg hm ⟨v, H, I, r, h⟩ hd
theorem ZZ {x : Str} {v : V} {u : Value} {pos : Pos} (hg : Gl X x) (hm : X.mg x = none) (hv : bootBuiltins x = some u) (r : RelV v u) (hn : x ≠ "__name__" := by decide) (hd : (x == ("__debug__" : Str)) = false := by decide) : PE X (.Name x pos) (tC v) :=
  fun _ _ _ H _ I h => uA I hg hm hv ⟨v, H, I, r, h⟩ hn hd
variable {a b : Expr} {ta tb : TE} {pos : Pos}
noncomputable def tB (t : TE) : TT := fun σ H Q => t σ H fun x H1 => ∃ c, x = .bl c ∧ Q c H1
theorem xj {e : Expr} {t : TE} (h : PE X e t) (he : ∀ whole, isTrue e X.env whole = (do let v ← whole; standAt e.pos; holding [v] (truthy v)) := by intro _; rfl) : PT X e (tB t) := by
  intro pins s σ H Q I hw
  refine isTrue_plain (thn (h pins s σ H _ I hw) fun v s1 ⟨x, H1, I1, r1, q1⟩ => ?_) (he _)
  obtain ⟨d, rfl, q⟩ := q1
  cases r1
  exact wpAny_truthy_bool ⟨H1, I1, q⟩
variable {tA tB' : TT} {xQ : List Expr}
noncomputable def zbU (t u : TT) : TT := fun σ H Q => t σ H fun c H1 => if c = true then u σ H1 Q else Q false H1
noncomputable def tOr (t u : TT) : TT := fun σ H Q => t σ H fun c H1 => if c = true then Q true H1 else u σ H1 Q
noncomputable def zbV (t : TT) : TT := fun σ H Q => t σ H fun c H1 => Q (!c) H1
theorem j9 (ha : PT X a tA) : PW X (.BoolOp .And [a] pos) tA := by
  intro wh pins s σ H Q I h
  refine isTrue_and (thn (ha pins s σ H Q I h) fun c s1 e => ?_)
  cases c with
  | true => exact isTrue_and_nil e
  | false => exact e
theorem uB (ha : PT X a tA) : PW X (.BoolOp .Or [a] pos) tA := by
  intro wh pins s σ H Q I h
  refine isTrue_or (thn (ha pins s σ H Q I h) fun c s1 e => ?_)
  cases c with
  | false => exact isTrue_or_nil e
  | true => exact e
theorem k7 (ha : PT X a tA) (hb : PW X (.BoolOp .And (b :: xQ) pos) tB') : PW X (.BoolOp .And (a :: b :: xQ) pos) (zbU tA tB') := by
  intro wh pins s σ H Q I h
  refine isTrue_and (thn (ha pins s σ H _ I h) fun c s1 ⟨H1, I1, q1⟩ => ?_)
  cases c with
  | true => exact hb wh pins s1 σ H1 Q I1 q1
  | false => exact ⟨H1, I1, q1⟩
theorem qS (ha : PT X a tA) (hb : PW X (.BoolOp .Or (b :: xQ) pos) tB') : PW X (.BoolOp .Or (a :: b :: xQ) pos) (tOr tA tB') := by
  intro wh pins s σ H Q I h
  refine isTrue_or (thn (ha pins s σ H _ I h) fun c s1 ⟨H1, I1, q1⟩ => ?_)
  cases c with
  | true => exact ⟨H1, I1, q1⟩
  | false => exact hb wh pins s1 σ H1 Q I1 q1
theorem vX (ha : PT X a tA) : PT X (.UnaryOp .Not a pos) (zbV tA) := by
  intro pins s σ H Q I h
  exact isTrue_not (ha pins s σ H (fun c H1 => Q (!c) H1) I h)
noncomputable def KS (ta tb : TE) : TE := fun σ H Q => ta σ H fun x H1 => ∃ c, x = .bl c ∧ if c = true then tb σ H1 Q else Q (.bl false) H1
noncomputable def KU (ta : TE) : TE := fun σ H Q => ta σ H fun x H1 => ∃ c, x = .bl c ∧ Q (.bl (!c)) H1
theorem k8 {op} {t : TE} (h : PE X a t) : PE X (.BoolOp op [a] pos) t := fun pins s σ H Q I hw => BoolOp_one (h pins s σ H Q I hw)
theorem jv (ha : PE X a ta) (hb : PE X (.BoolOp .And (b :: xQ) pos) tb) : PE X (.BoolOp .And (a :: b :: xQ) pos) (KS ta tb) := by
  intro pins s σ H Q I h
  refine BoolOp_and (thn (ha pins s σ H _ I h) fun v s1 ⟨x, H1, I1, r1, q1⟩ => ?_)
  obtain ⟨c, rfl, q1⟩ := q1
  cases r1
  refine wpAny_truthy_bool ?_
  cases c with
  | true => exact hb pins s1 σ H1 Q I1 q1
  | false => exact ⟨.bl false, H1, I1, rfl, q1⟩
theorem zbW (ha : PE X a ta) : PE X (.UnaryOp .Not a pos) (KU ta) := by
  intro pins s σ H Q I h
  refine UnaryOp_ (thn (ha pins s σ H _ I h) fun v s1 ⟨x, H1, I1, r1, q1⟩ => ?_)
  obtain ⟨c, rfl, q1⟩ := q1
  cases r1
  exact not_of (wpAny_truthy_bool ⟨.bl (!c), H1, I1, rfl, q1⟩)
noncomputable def tIf (t : TT) (ta tb : TE) : TE := fun σ H Q => t σ H fun c H1 => if c = true then ta σ H1 Q else tb σ H1 Q
theorem xg {c : Expr} (hc : PT X c tA) (ha : PE X a ta) (hb : PE X b tb) : PE X (.IfExp c a b pos) (tIf tA ta tb) := by
  intro pins s σ H Q I h
  refine wpAny_IfExp (thn (hc pins s σ H _ I h) fun d s1 ⟨H1, I1, q1⟩ => ?_)
  cases d with
  | true => exact ha pins s1 σ H1 Q I1 q1
  | false => exact hb pins s1 σ H1 Q I1 q1
end
end L2
namespace L2
open PySem PySem.Spec PyProof.Rows
noncomputable def SqL (K : PySem.W.Frag) (H : Hp) (a : Addr) (xs : List V) : Prop :=
  Rd H a (.lst xs) ∨
    ∃ (o : Obj) (its : Array Value) (n : Nat), K.lookup a = some o ∧ o.cls = .type "list" ∧ o.dict = none ∧ o.data = .seq its n ∧ its.size ≤ sizeLine ∧ Vals xs its.toList
noncomputable def SqT (K : PySem.W.Frag) (H : Hp) (a : Addr) (xs : List V) : Prop :=
  Rd H a (.tup xs) ∨
    ∃ (o : Obj) (its : Array Value) (n : Nat), K.lookup a = some o ∧ o.cls = .type "tuple" ∧ o.data = .seq its n ∧ its.size ≤ sizeLine ∧ Vals xs its.toList
noncomputable def zd7 : Value → Option V
  | .none => some .non
  | .bool b => some (.bl b)
  | .int i _ => some (.int i)
  | .str x _ => some (.str x)
  | .bytes b _ => some (.byt b)
  | .float b _ => some (.flt b)
  | .ref a => some (.ref a)
  | .type n => some (.ty n)
  | _ => none
theorem RelV.abs {x : V} {u : Value} (r : RelV x u) : zd7 u = some x := by
  cases x with
  | non => cases r; rfl
  | bl _ => cases r; rfl
  | int _ => obtain ⟨t, rfl⟩ := r; rfl
  | str _ => obtain ⟨t, rfl⟩ := r; rfl
  | byt _ => obtain ⟨t, rfl⟩ := r; rfl
  | flt _ => obtain ⟨t, rfl⟩ := r; rfl
  | ref _ => cases r; rfl
  | ty _ => cases r; rfl
theorem RelV.inj {x y : V} {u : Value} (r : RelV x u) (q : RelV y u) : x = y := Option.some.inj (r.abs.symm.trans q.abs)
theorem Vals.inj : ∀ {xs ys : List V} {us : List Value}, Vals xs us → Vals ys us → xs = ys
  | _, _, _, .nil, .nil => rfl
  | _, _, _, .cons r t, .cons r' t' => by rw [r.inj r', Vals.inj t t']
section
variable {X : Cx} {pins : List (Addr × Obj)} {σ : St} {H : Hp} {s : Shared} {a : Addr} {xs ys : List V}
theorem SqL.of {K : PySem.W.Frag} (h : H a = some (.lst xs)) : SqL K H a xs := .inl (.inl h)
theorem SqT.of {K : PySem.W.Frag} (h : H a = some (.tup xs)) : SqT K H a xs := .inl (.inl h)
theorem Inv.list (I : Inv X pins σ H s) (h : SqL X.K H a xs) : ∃ its : List Value, Vals xs its ∧ PlainL s.heap a its.toArray ∧ xs.length ≤ sizeLine := by
  rcases h with h | ⟨o, its, n, hk, hc, hd, hs, hz, r⟩
  · obtain ⟨z, its, n, r, e⟩ := h.ok I.hok
    exact ⟨its, r, ⟨_, n, e, rfl, rfl, rfl⟩, z⟩
  · refine ⟨its.toList, r, ⟨o, n, I.kIn a o hk, hc, hd, by simpa using hs⟩, ?_⟩
    have e := r.length
    simp only [Array.length_toList] at e
    omega
theorem Inv.tuple (I : Inv X pins σ H s) (h : SqT X.K H a xs) : ∃ its : List Value, Vals xs its ∧ IsTup s.heap a its.toArray ∧ xs.length ≤ sizeLine := by
  rcases h with h | ⟨o, its, n, hk, hc, hs, hz, r⟩
  · obtain ⟨z, its, r, p⟩ := h.ok I.hok
    exact ⟨its, r, p, z⟩
  · refine ⟨its.toList, r, ⟨o, I.kIn a o hk, hc, n, by simpa using hs⟩, ?_⟩
    have e := r.length
    simp only [Array.length_toList] at e
    omega
theorem Inv.list_inj (I : Inv X pins σ H s) (h : SqL X.K H a xs) (h' : SqL X.K H a ys) : xs = ys := by
  obtain ⟨its, r, ⟨o, n, e, _, _, d⟩, _⟩ := I.list h
  obtain ⟨its', r', ⟨o', n', e', _, _, d'⟩, _⟩ := I.list h'
  rw [e] at e'; cases e'
  rw [d] at d'
  injection d' with d1 _
  have : its = its' := by simpa using congrArg Array.toList d1
  subst this
  exact r.inj r'
theorem Inv.tuple_inj (I : Inv X pins σ H s) (h : SqT X.K H a xs) (h' : SqT X.K H a ys) : xs = ys := by
  obtain ⟨its, r, ⟨o, e, _, n, d⟩, _⟩ := I.tuple h
  obtain ⟨its', r', ⟨o', e', _, n', d'⟩, _⟩ := I.tuple h'
  rw [e] at e'; cases e'
  rw [d] at d'
  injection d' with d1 _
  have : its = its' := by simpa using congrArg Array.toList d1
  subst this
  exact r.inj r'
end
noncomputable abbrev Cx.wish (X : Cx) (E : Value → Shared → Prop) : Cx := { X with xe := E }
noncomputable abbrev Cx.nox (X : Cx) : Cx := X.wish fun _ _ => False
theorem Cx.Ok.wish {X : Cx} (ok : X.Ok) (E : Value → Shared → Prop) : (X.wish E).Ok :=
  ⟨ok.mod, ok.kind, ok.glob, ok.blt, ok.above, ok.inj, ok.has, ok.cab, ok.hd, ok.frames, ok.stk, ok.exf, ok.bs, ok.bsz, ok.noex, ok.exfs, ok.funs, ok.frf⟩
theorem Cx.Ok.unwish {X : Cx} {E : Value → Shared → Prop} (ok : (X.wish E).Ok) : X.Ok :=
  ⟨ok.mod, ok.kind, ok.glob, ok.blt, ok.above, ok.inj, ok.has, ok.cab, ok.hd, ok.frames, ok.stk, ok.exf, ok.bs, ok.bsz, ok.noex, ok.exfs, ok.funs, ok.frf⟩
section
variable {X : Cx} {pins : List (Addr × Obj)} {σ : St} {H : Hp} {s : Shared} {E : Value → Shared → Prop}
theorem Inv.wish (I : Inv X pins σ H s) (E : Value → Shared → Prop) : Inv (X.wish E) pins σ H s := ⟨I.ok.wish E, I.os, I.bare, I.base, I.loc, I.cell, I.free, I.freeC, I.pin, I.hok, I.len⟩
theorem Inv.unwish (I : Inv (X.wish E) pins σ H s) : Inv X pins σ H s := ⟨I.ok.unwish, I.os, I.bare, I.base, I.loc, I.cell, I.free, I.freeC, I.pin, I.hok, I.len⟩
theorem SP.unwish {D : Ends} {f : Flow} {s' : Shared} (h : SP (X.wish E) pins D f s') : SP X pins D f s' := by
  cases f with
  | next => obtain ⟨σ', H', I, q⟩ := h; exact ⟨σ', H', I.unwish, q⟩
  | brk => obtain ⟨σ', H', I, q⟩ := h; exact ⟨σ', H', I.unwish, q⟩
  | cont => obtain ⟨σ', H', I, q⟩ := h; exact ⟨σ', H', I.unwish, q⟩
  | ret u => obtain ⟨v, σ', H', I, r, q⟩ := h; exact ⟨v, σ', H', I.unwish, r, q⟩
theorem PE.nox {e : Expr} {t : TE} (h : PE X.nox e t) : PE X e t := fun pins s σ H Q I hw =>
  wpAny_mono (h pins s σ H Q (I.wish _) hw) (fun _ _ ⟨v, H', I', r, q⟩ => ⟨v, H', I'.unwish, r, q⟩) fun _ _ z => False.elim z
theorem PT.nox {e : Expr} {t : TT} (h : PT X.nox e t) : PT X e t := fun pins s σ H Q I hw =>
  wpAny_mono (h pins s σ H Q (I.wish _) hw) (fun _ _ ⟨H', I', q⟩ => ⟨H', I'.unwish, q⟩) fun _ _ z => False.elim z
theorem PSs.nox {st : List Stmt} {t : TS} (h : PSs X.nox st t) : PSs X st t := fun pins s σ H D I hw =>
  wpAny_mono (h pins s σ H D (I.wish _) hw) (fun _ _ q => q.unwish) fun _ _ z => False.elim z
end
section
variable {X : Cx} {st : Stmt} {xQ : List Stmt} {t u : TS} {e : Expr} {te : TE} {pos : Pos}
noncomputable def KW : TS := fun D σ H => D.nx σ H
noncomputable def zbX (t u : TS) : TS := fun D σ H => t { D with nx := u D } σ H
theorem z0 : PSs X [] KW := fun _ _ σ H _ I h => wpAny_execs_nil ⟨σ, H, I, h⟩
theorem za (h1 : PS X st t) (h2 : PSs X xQ u) : PSs X (st :: xQ) (zbX t u) := by
  intro pins s σ H D I h
  refine wpAny_execs_cons (thn (h1 pins s σ H { D with nx := u D } I h) fun f s1 q => ?_)
  cases f with
  | next =>
    obtain ⟨σ', H', I', q⟩ := q
    exact h2 pins s1 σ' H' D I' q
  | ret v => exact q
  | brk => exact q
  | cont => exact q
theorem ze (h1 : PS X st t) : PSs X [st] t := by
  intro pins s σ H D I h
  refine wpAny_execs_cons (thn (h1 pins s σ H D I h) fun f s1 q => ?_)
  cases f with
  | next => exact wpAny_execs_nil q
  | ret v => exact q
  | brk => exact q
  | cont => exact q
theorem Inv.quiet {pins : List (Addr × Obj)} {σ : St} {H : Hp} {s : Shared} (I : Inv X pins σ H s) : interactive X.env = false := by simp [interactive, I.ok.kind]
noncomputable def KY (te : TE) : TS := fun D σ H => te σ H fun _ H1 => D.nx σ H1
theorem yr (he : PE X e te) (hs : swapsWith e none pos.line X.env = pure false := by rfl) : PS X (.Expr e pos) (KY te) := by
  intro pins s σ H D I h
  exact wpAny_Expr_any (thn (he pins s σ H _ I h) fun v s1 ⟨x, H1, I1, r1, q1⟩ => ⟨σ, H1, I1, q1⟩) I.quiet hs
noncomputable def zbY (te : TE) : TS := fun D σ H => te σ H D.rt
theorem zY (he : PE X e te) : PS X (.Return (some e) pos) (zbY te) := by
  intro pins s σ H D I h
  exact wpAny_Return_some (thn (he pins s σ H _ I h) fun v s1 ⟨x, H1, I1, r1, q1⟩ => ⟨x, σ, H1, I1, r1, q1⟩)
noncomputable def zbZ (c : TT) (t u : TS) : TS := fun D σ H => c σ H fun b H1 => if b = true then t D σ H1 else u D σ H1
theorem yA {c : Expr} {a b : List Stmt} {tc : TT} (hc : PT X c tc) (ha : PSs X a t) (hb : PSs X b u) : PS X (.If c a b pos) (zbZ tc t u) := by
  intro pins s σ H D I h
  refine wpAny_If (thn (hc pins s σ H _ I h) fun d s1 ⟨H1, I1, q1⟩ => ?_)
  cases d with
  | true => exact ha pins s1 σ H1 D I1 q1
  | false => exact hb pins s1 σ H1 D I1 q1
noncomputable def QD : TS := fun _ _ _ => False
theorem Jz : PS X st QD := fun _ _ _ _ _ _ h => h.elim
end
noncomputable abbrev TG := V → St → Hp → (St → Hp → Prop) → Prop
noncomputable abbrev TGs := List V → St → Hp → (St → Hp → Prop) → Prop
noncomputable def PG (X : Cx) (target : Expr) (t : TG) : Prop :=
  ∀ (pins : List (Addr × Obj)) (s : Shared) (σ : St) (H : Hp) (v : V) (u : Value) (Q : St → Hp → Prop), Inv X pins σ H s → RelV v u → t v σ H Q →
    wpAny (model X.prog X.w) X.A (assign target X.env u) (fun _ s' => ∃ σ' H', Inv X pins σ' H' s' ∧ Q σ' H') X.xe s
noncomputable def PGs (X : Cx) (ts : List Expr) (t : TGs) : Prop :=
  ∀ (pins : List (Addr × Obj)) (s : Shared) (σ : St) (H : Hp) (vs : List V) (us : List Value) (Q : St → Hp → Prop), Inv X pins σ H s → Vals vs us → t vs σ H Q →
    wpAny (model X.prog X.w) X.A (assignInOrder ((assignEach ts X.env).map (·.2)) us) (fun _ s' => ∃ σ' H', Inv X pins σ' H' s' ∧ Q σ' H') X.xe s
noncomputable abbrev JA := V → V → V → Hp → (Hp → Prop) → Prop
noncomputable def zb0 (X : Cx) (t : JA) : Prop :=
  ∀ (pins : List (Addr × Obj)) (s : Shared) (σ : St) (H : Hp) (o i v : V) (ov iv u : Value) (Q : Hp → Prop), Inv X pins σ H s → RelV o ov → RelV i iv → RelV v u → t o i v H Q →
    wpAny (model X.prog X.w) X.A (setItem ov iv u) (fun _ s' => ∃ H', Inv X pins σ H' s' ∧ Q H') X.xe s
section
variable {X : Cx} {pos : Pos}
noncomputable def k9 (i : Nat) : TG := fun v σ H Q => Q (σ.set i (some v)) H
theorem yO {i : Nat} {x : Str} (hN : X.N.Nodup) (hi : X.N[i]? = some x) (hx : Loc X.env.scope x) (hf : X.fn x = true ∨ X.env.scope.names.lookup x = some .local := by first | exact .inl rfl | exact .inr rfl | assumption) : PG X (.Name x pos) (k9 i) := by
  intro pins s σ H v u Q I r h
  exact wpAny_assign_Name (qR I hN hi hx r (fun s' I' => ⟨_, H, I', h⟩) hf)
noncomputable def zb1 : TGs := fun vs σ H Q => vs = [] ∧ Q σ H
noncomputable def KZ (t : TG) (u : TGs) : TGs := fun vs σ H Q => ∃ v r, vs = v :: r ∧ t v σ H fun σ' H' => u r σ' H' Q
theorem zaK : PGs X [] zb1 := by
  intro pins s σ H vs us Q I r h
  obtain ⟨e, h⟩ := h
  subst e
  cases r
  exact assignInOrder_nil ⟨σ, H, I, h⟩
theorem Y5 {e : Expr} {es : List Expr} {t : TG} {u : TGs} (h1 : PG X e t) (h2 : PGs X es u)
    (hs : (assignEach (e :: es) X.env).map (·.2) = assign e X.env :: (assignEach es X.env).map (·.2) := by rfl) : PGs X (e :: es) (KZ t u) := by
  intro pins s σ H vs us Q I r h
  obtain ⟨v, vr, e1, h⟩ := h
  subst e1
  cases r with
  | cons r rr =>
    rw [hs]
    refine assignInOrder_cons (thn (h1 pins s σ H _ _ _ I r h) fun _ s1 ⟨σ1, H1, I1, q1⟩ => ?_)
    exact h2 pins s1 σ1 H1 _ _ Q I1 rr q1
noncomputable def JB (K : PySem.W.Frag) (n : Nat) (t : TGs) : TG := fun v σ H Q => ∃ a xs, v = .ref a ∧ SqT K H a xs ∧ xs.length = n ∧ t xs σ H Q
theorem zb2 {es : List Expr} {k : Nat} {t : TGs} {n : Nat} (hc : X.calm = true) (h : PGs X es t)
    (hn : (assignEach es X.env).length = n := by rfl) (hst : (assignEach es X.env).findIdx? (·.1) = none := by rfl) : PG X (.Tuple es k pos) (JB X.K n t) := by
  intro pins s σ H v u Q I r hw
  obtain ⟨a, xs, e1, hq, hl, hw⟩ := hw
  subst e1
  cases r
  obtain ⟨its, rv, ht, hz⟩ := I.tuple hq
  refine assign_Tuple_tuple (I.ok.hd hc) ht (by simp [hn, ← hl, rv.length]) hst fun h' hx => ?_
  have I1 : Inv X pins σ H { s with heap := h' } := I.kept (t' := s.toks) fun b o e => hx b o (Nat.ne_of_lt (Heap.lt_size e)) e
  exact h pins _ σ H xs _ Q I1 (by simpa using rv) hw
noncomputable def zb3 (to ti : TE) (t : JA) : TG := fun v σ H Q => to σ H fun o H1 => ti σ H1 fun i H2 => t o i v H2 fun H3 => Q σ H3
theorem vm {o i : Expr} {to ti : TE} {t : JA} (ho : PE X o to) (hi : PE X i ti) (hs : zb0 X t)
    (ha : ∀ v, assign (.Subscript o i pos) X.env v = (do
      let ov ← holding [v] (eval o X.env)
      let iv ← holding [v, ov] (eval i X.env)
      standAt pos
      holding [v, ov, iv] (setItem ov iv v)
      release [v, ov, iv] []) := by intro _; rfl) : PG X (.Subscript o i pos) (zb3 to ti t) := by
  intro pins s σ H v u Q I r h
  rw [ha]
  refine wpAny_bind (wpAny_holding (thn (ho pins s σ H _ I h) fun ov s1 ⟨x, H1, I1, r1, q1⟩ => ?_))
  refine wpAny_bind (wpAny_holding (thn (hi pins s1 σ H1 _ I1 q1) fun iv s2 ⟨y, H2, I2, r2, q2⟩ => ?_))
  refine wpAny_bind (wpAny_standAt (wpAny_bind (wpAny_holding (thn (hs pins s2 σ H2 x y v ov iv u _ I2 r1 r2 r q2) fun _ s3 ⟨H3, I3, q3⟩ => ?_))))
  exact wpAny_release ⟨σ, H3, I3, q3⟩
noncomputable def Uh (te : TE) (g : TG) : TS := fun D σ H => te σ H fun x H1 => g x σ H1 D.nx
theorem x3 {tg e : Expr} {te : TE} {g : TG} (he : PE X e te) (hg : PG X tg g) (hs : swapsWithSole [tg] e pos.line X.env = pure false := by rfl) (hw : swappedStores [tg] e X.env = pure none := by rfl)
    (h1 : (assignEach [tg] X.env).map (·.2) = [assign tg X.env] := by rfl) : PS X (.Assign [tg] e pos) (Uh te g) := by
  intro pins s σ H D I h
  refine wpAny_Assign_stores (thn (he pins s σ H _ I h) fun v s1 ⟨x, H1, I1, r1, q1⟩ => ?_) hs hw
  rw [h1]
  exact thn (hg pins s1 σ H1 x v _ I1 r1 q1) fun _ s2 q => q
theorem zZ {i : Nat} {x : Str} {e : Expr} {te : TE} {pos' : Pos} (hN : X.N.Nodup) (hi : X.N[i]? = some x) (hx : Loc X.env.scope x) (he : PE X e te) (hs : swapsWith e (some (.Name x pos')) pos.line X.env = pure false := by rfl) (hf : X.fn x = true ∨ X.env.scope.names.lookup x = some .local := by first | exact .inl rfl | exact .inr rfl | assumption) :
    PS X (.Assign [.Name x pos'] e pos) (Uh te (k9 i)) := by
  intro pins s σ H D I h
  refine wpAny_Assign_Name (thn (he pins s σ H _ I h) fun v s1 ⟨y, H1, I1, r1, q1⟩ => ?_) hs
  exact qR I1 hN hi hx r1 (fun s2 I2 => ⟨_, H1, I2, q1⟩) hf
noncomputable def zb4 (i j : Nat) (ta : TA) : TS := fun D σ H => ta σ H fun vs H1 => ∃ v w, vs = [v, w] ∧ D.nx ((σ.set i (some v)).set j (some w)) H1
theorem Y6 {i j : Nat} {x y : Str} {a b : Expr} {ta : TA} {px py pt : Pos} {kt k2 pt2} (hc : X.calm = true) (hN : X.N.Nodup) (hi : X.N[i]? = some x) (hj : X.N[j]? = some y) (hij : i ≠ j)
    (hx : X.env.scope.names.lookup x = some .local) (hy : X.env.scope.names.lookup y = some .local) (ha : PA X [a, b] ta)
    (hw : swappedStores [.Tuple [.Name x px, .Name y py] kt pt] (.Tuple [a, b] k2 pt2) X.env = pure (some [x, y]))
    (hs : swapsWithSole [.Tuple [.Name x px, .Name y py] kt pt] (.Tuple [a, b] k2 pt2) pos.line X.env = pure false := by rfl) :
    PS X (.Assign [.Tuple [.Name x px, .Name y py] kt pt] (.Tuple [a, b] k2 pt2) pos) (zb4 i j ta) := by
  intro pins s σ H D I h
  rw [exec_Assign_arm]
  refine wpAny_bind (wpAny_standAt ?_)
  rw [hs]
  refine wpAny_bind (wpAny_pure ?_)
  rw [if_neg (by decide)]
  refine wpAny_bind (Tuple_ (thn (ha _ pins s σ H _ I h) fun us s1 ⟨vs, H1, I1, r1, q1⟩ => ?_))
  obtain ⟨v, w, e1, q1⟩ := q1
  subst e1
  obtain ⟨u1, u2, rfl, rv, rw'⟩ : ∃ u1 u2, us = [u1, u2] ∧ RelV v u1 ∧ RelV w u2 := by
    cases r1 with
    | cons p q =>
      cases q with
      | cons p' q' =>
        cases q'
        exact ⟨_, _, rfl, p, p'⟩
  refine wpAny_newObj_type ?_ (by show 2 ≤ sizeLine; decide)
  have I2 : Inv X pins σ H1 { s1 with heap := s1.heap.push { cls := .type "tuple", data := .seq [u1, u2].toArray } } := I1.kept (t' := s1.toks) fun b o e => Heap.get?_push_of_some _ e
  rw [hw]
  refine wpAny_bind (wpAny_pure ?_)
  show wpAny (model X.prog X.w) X.A (do rule "assign.swapped-stores"; let items ← unpackItems (.ref s1.heap.objs.size) 2 none; assignInOrder [fun v => bindName X.env y v, fun v => bindName X.env x v] items.reverse; pure Flow.next) _ _ _
  refine wpAny_bind (wpAny_rule (wpAny_bind (unpackItems_tuple (items := #[u1, u2]) (I.ok.hd hc) (IsTup.new s1.heap _) fun h' hx' => ?_)))
  have I3 := I2.kept (h' := h') (t' := s1.toks) fun b o e => hx' b o (Nat.ne_of_lt (Heap.lt_size e)) e
  show wpAny _ _ (assignInOrder [fun v => bindName X.env y v, fun v => bindName X.env x v] [u2, u1] >>= fun _ => pure Flow.next) _ _ _
  refine wpAny_bind (assignInOrder_cons (wpAny_bindName (qR I3 hN hj (.inl hy) rw' (fun s2 I4 => ?_) (.inr hy))))
  refine assignInOrder_cons (wpAny_bindName (qR I4 hN hi (.inl hx) rv (fun s3 I5 => assignInOrder_nil (wpAny_pure ?_)) (.inr hx)))
  rw [List.set_comm _ _ (Ne.symm hij)] at I5
  exact ⟨_, H1, I5, q1⟩
end
section
variable {X : Cx} {pos : Pos}
end
structure It where
  go : Nat → Hp → Prop
  yld : Nat → Hp → V → Hp → Prop
  stop : Nat → Hp → Prop
noncomputable def FpOk (X : Cx) (pins : List (Addr × Obj)) (H : Hp) (b : Addr) : Prop :=
  H b = none ∧ b ≠ X.env.locals ∧ b ∉ X.fs ∧ (b ∈ X.ex ∨ X.s₀.heap.objs.size ≤ b) ∧ (∀ x c, X.env.cells.lookup x = some c → c ≠ b) ∧ ∀ p ∈ X.pn ++ pins, p.1 ≠ b
theorem Inv.fpOk {X : Cx} {pins : List (Addr × Obj)} {σ : St} {H H' : Hp} {s : Shared} {b : Addr} (I : Inv X pins σ H s) (hb : s.heap.objs.size ≤ b) (hn : H' b = none) : FpOk X pins H' b := by
  refine ⟨hn, Nat.ne_of_gt (Nat.lt_of_lt_of_le I.lt hb), I.nofs hb, .inr (Nat.le_trans I.sz hb), fun x c e z => ?_, fun p hp z => ?_⟩
  · obtain ⟨v, q⟩ := I.cell x c e
    exact absurd (Nat.lt_of_lt_of_le q.lt (by rw [z]; exact hb)) (Nat.lt_irrefl _)
  · exact absurd (Nat.lt_of_lt_of_le (Heap.lt_size (I.pin p hp).1) (by rw [z]; exact hb)) (Nat.lt_irrefl _)
structure Turn (P : Program) (w : World) (K : PySem.W.Frag) (tg : Expr) (J : It) (fp : List Addr) (it : Addr) (tn : Nat → Heap → Prop) : Prop where
  mem : it ∈ fp
  obj : ∀ i h, tn i h → ∀ b ∈ fp, ∃ o, h.get? b = some o ∧ ∀ v, o.data ≠ .cell v
  keep : ∀ i h h', tn i h → (∀ b ∈ fp, ∀ o, h.get? b = some o → h'.get? b = some o) → tn i h'
  item : ∀ (X : Cx), X.prog = P → X.w = w → X.K = K → X.calm = true → ∀ (i : Nat) (pins : List (Addr × Obj)) (s : Shared) (σ : St) (H : Hp) (E : Value → Shared → Prop), Inv X pins σ H s → (∀ b ∈ fp, FpOk X pins H b) → tn i s.heap → J.go i H →
    wpAny (model P w) X.A (pyNext (.ref it)) (fun r s1 => ∃ u, r = some u ∧
      wpAny (model P w) X.A (letOwnedTupleGo tg (.ref it) u) (fun _ s2 => ∃ x H', Inv X pins σ H' s2 ∧ RelV x u ∧ J.yld i H x H' ∧ tn (i + 1) s2.heap ∧ ∀ b ∈ fp, H' b = none) E s1) E s
  done : ∀ (X : Cx), X.prog = P → X.w = w → X.K = K → X.calm = true → ∀ (i : Nat) (pins : List (Addr × Obj)) (s : Shared) (σ : St) (H : Hp) (E : Value → Shared → Prop), Inv X pins σ H s → (∀ b ∈ fp, FpOk X pins H b) → tn i s.heap → J.stop i H →
    wpAny (model P w) X.A (pyNext (.ref it)) (fun r s1 => r = none ∧ Inv X pins σ H s1) E s
  self : ∀ (A : Around) (i : Nat) (s : Shared) (Q : Value → Shared → Prop) (E : Value → Shared → Prop), tn i s.heap → Q (.ref it) s → wpAny (model P w) A (pyIter (.ref it)) Q E s
noncomputable abbrev TI := St → Hp → (It → Hp → Prop) → Prop
noncomputable def PIE (X : Cx) (pins : List (Addr × Obj)) (σ : St) (tg : Expr) (R : It → Hp → Prop) (itv : Value) (s2 : Shared) : Prop :=
  ∃ (it : Addr) (fp : List Addr) (tn : Nat → Heap → Prop) (J : It) (H' : Hp), itv = .ref it ∧ Inv X pins σ H' s2 ∧ Turn X.prog X.w X.K tg J fp it tn ∧ tn 0 s2.heap ∧ (∀ b ∈ fp, FpOk X pins H' b) ∧ R J H'
noncomputable def PI (X : Cx) (tg iter : Expr) (wi : TI) : Prop :=
  ∀ (pins : List (Addr × Obj)) (s : Shared) (σ : St) (H : Hp) (R : It → Hp → Prop), Inv X pins σ H s → wi σ H R →
    wpAny (model X.prog X.w) X.A (eval iter X.env) (fun v s1 => wpAny (model X.prog X.w) X.A (pyIter v) (PIE X pins σ tg R) X.xe s1) X.xe s
theorem YN {M : Model} {A : Around} {E : Value → Shared → Prop} {s : Shared} {tg : Expr} {it : Addr} {u : Value} {o : Obj} {n : String} {vs : Array Value} {Q : Unit → Shared → Prop} (ho : s.heap.get? it = some o) (hc : o.cls = .type n) (hd : o.data = .fields vs)
    (hn : ["enumerate", "zip", "dict_itemiterator", "dict_reverseitemiterator", "odict_iterator", "itertools.zip_longest", "itertools.pairwise"].contains n = false) (hQ : Q () s) : wpAny M A (letOwnedTupleGo tg (.ref it) u) Q E s := by
  unfold letOwnedTupleGo
  cases tg <;> first
    | exact wpAny_pure hQ
    | (cases u <;> first
        | exact wpAny_pure hQ
        | (refine wpAny_bind (wpAny_load ho ?_)
           rw [hc, hd]
           show wpAny M A (if (["enumerate", "zip", "dict_itemiterator", "dict_reverseitemiterator", "odict_iterator", "itertools.zip_longest", "itertools.pairwise"].contains n && vs[0]? == some (rawInt _)) = true then _ else _) Q E s
           rw [if_neg (by intro h; rw [hn, Bool.false_and] at h; cases h)]
           exact wpAny_pure hQ))
noncomputable def Itl (K : PySem.W.Frag) (a : Addr) : It :=
  ⟨fun i H => ∃ xs x, SqL K H a xs ∧ xs[i]? = some x, fun i H x H' => H' = H ∧ ∀ xs, SqL K H a xs → xs[i]? = some x, fun i H => ∃ xs, SqL K H a xs ∧ xs.length ≤ i⟩
noncomputable def Itt (K : PySem.W.Frag) (a : Addr) : It :=
  ⟨fun i H => ∃ xs x, SqT K H a xs ∧ xs[i]? = some x, fun i H x H' => H' = H ∧ ∀ xs, SqT K H a xs → xs[i]? = some x, fun i H => ∃ xs, SqT K H a xs ∧ xs.length ≤ i⟩
noncomputable def Itr (lo : Int) (n : Nat) : It := ⟨fun i _ => i < n, fun i H x H' => H' = H ∧ x = .int (lo + i), fun i _ => n ≤ i⟩
theorem QE {P : Program} {w : World} {K : PySem.W.Frag} {tg : Expr} (a it : Addr) : Turn P w K tg (Itl K a) [it] it (fun i h => h.IsListIter it a i) where
  mem := by simp
  obj := fun i h st b hb => by
    have e : b = it := by simpa using hb
    subst e
    obtain ⟨o, e, c, d⟩ := st
    exact ⟨o, e, fun v z => by rw [d] at z; cases z⟩
  keep := fun i h h' st k => st.at fun o e => k it (by simp) o e
  item := by
    intro X hP hw hK hc i pins s σ H E I hf st hg
    subst hP hw hK
    obtain ⟨xs, x, hq, hx⟩ := hg
    obtain ⟨its, rv, p, hz⟩ := I.list hq
    obtain ⟨u, hu, ru⟩ := rv.get hx
    obtain ⟨f0, f1, f2, f3, f4, f5⟩ := hf it (by simp)
    refine wpAny_pyNext_list_item st p.isList (x := u) (by simpa using hu) fun h' st' sb => ?_
    have I1 : Inv X pins σ H { s with heap := h' } := I.turned (t' := s.toks) (fun b o hb e => (sb.2 b hb).trans e) f0 f1 f3 f4 f5
    obtain ⟨o, e, c, d⟩ := id st'
    exact ⟨u, rfl, YN (s := { s with heap := h' }) e c d (by decide) ⟨x, H, I1, ru, ⟨rfl, fun ys hy => by rw [I.list_inj hy hq]; exact hx⟩, st', fun b hb => (hf b hb).1⟩⟩
  done := by
    intro X hP hw hK hc i pins s σ H E I hf st hg
    subst hP hw hK
    obtain ⟨xs, hq, hx⟩ := hg
    obtain ⟨its, rv, p, hz⟩ := I.list hq
    obtain ⟨f0, f1, f2, f3, f4, f5⟩ := hf it (by simp)
    have hl := rv.length
    exact wpAny_pyNext_list_end (I.ok.hd hc) st p.isList (by simp; omega) fun h' eb => ⟨rfl, I.turned (t' := s.toks) (fun b o hb e => eb b o hb e) f0 f1 f3 f4 f5⟩
  self := fun _ _ _ _ _ st h => wpAny_pyIter_listiter st h
theorem Ui {P : Program} {w : World} {K : PySem.W.Frag} {tg : Expr} (a it : Addr) : Turn P w K tg (Itt K a) [it] it (fun i h => h.IsTupleIter it a i) where
  mem := by simp
  obj := fun i h st b hb => by
    have e : b = it := by simpa using hb
    subst e
    obtain ⟨o, e, c, d⟩ := st
    exact ⟨o, e, fun v z => by rw [d] at z; cases z⟩
  keep := fun i h h' st k => st.at fun o e => k it (by simp) o e
  item := by
    intro X hP hw hK hc i pins s σ H E I hf st hg
    subst hP hw hK
    obtain ⟨xs, x, hq, hx⟩ := hg
    obtain ⟨its, rv, p, hz⟩ := I.tuple hq
    obtain ⟨u, hu, ru⟩ := rv.get hx
    obtain ⟨f0, f1, f2, f3, f4, f5⟩ := hf it (by simp)
    refine wpAny_pyNext_tuple_item st (show s.heap.IsTuple a its.toArray from p) (x := u) (by simpa using hu) fun h' st' sb => ?_
    have I1 : Inv X pins σ H { s with heap := h' } := I.turned (t' := s.toks) (fun b o hb e => (sb.2 b hb).trans e) f0 f1 f3 f4 f5
    obtain ⟨o, e, c, d⟩ := id st'
    exact ⟨u, rfl, YN (s := { s with heap := h' }) e c d (by decide) ⟨x, H, I1, ru, ⟨rfl, fun ys hy => by rw [I.tuple_inj hy hq]; exact hx⟩, st', fun b hb => (hf b hb).1⟩⟩
  done := by
    intro X hP hw hK hc i pins s σ H E I hf st hg
    subst hP hw hK
    obtain ⟨xs, hq, hx⟩ := hg
    obtain ⟨its, rv, p, hz⟩ := I.tuple hq
    obtain ⟨f0, f1, f2, f3, f4, f5⟩ := hf it (by simp)
    have hl := rv.length
    exact wpAny_pyNext_tuple_end (I.ok.hd hc) st (show s.heap.IsTuple a its.toArray from p) (by simp; omega) fun h' eb => ⟨rfl, I.turned (t' := s.toks) (fun b o hb e => eb b o hb e) f0 f1 f3 f4 f5⟩
  self := fun _ _ _ _ _ st h => wpAny_pyIter_tupleiter st h
theorem Uj {P : Program} {w : World} {K : PySem.W.Frag} {tg : Expr} (it : Addr) (lo : Int) (n : Nat) : Turn P w K tg (Itr lo n) [it] it (fun i h => IsRangeIter h it (lo + (i : Nat) * 1) ((n : Int) - (i : Nat)) 1) where
  mem := by simp
  obj := fun i h st b hb => by
    have e : b = it := by simpa using hb
    subst e
    exact ⟨_, st, fun v z => by
      have z' : Data.fields _ = Data.cell v := z
      cases z'⟩
  keep := fun i h h' st k => k it (by simp) _ st
  item := by
    intro X hP hw hK hc i pins s σ H E I hf st hg
    subst hP hw hK
    obtain ⟨f0, f1, f2, f3, f4, f5⟩ := hf it (by simp)
    have W := Walks.range (prog := X.prog) (w := X.w) (I.ok.hd hc) it lo 1 n
    refine W.item i s _ _ hg st fun v h' tk hv st' kk => ?_
    obtain ⟨t, rfl⟩ := hv
    have I1 : Inv X pins σ H { s with heap := h', toks := tk } := I.turned (fun b o hb e => kk b o (by simpa using hb) e) f0 f1 f3 f4 f5
    refine ⟨_, rfl, YN (s := { s with heap := h', toks := tk }) (n := "range_iterator") st' rfl rfl (by decide) ⟨.int (lo + i), H, I1, ⟨t, ?_⟩, ⟨rfl, rfl⟩, st', fun b hb => (hf b hb).1⟩⟩
    rw [Int.mul_one]
  done := by
    intro X hP hw hK hc i pins s σ H E I hf st hg
    subst hP hw hK
    obtain ⟨f0, f1, f2, f3, f4, f5⟩ := hf it (by simp)
    exact wpAny_pyNext_range_end (I.ok.hd hc) st (by have : n ≤ i := hg; omega) fun h' eb => ⟨rfl, I.turned (t' := s.toks) (fun b o hb e => eb b o hb e) f0 f1 f3 f4 f5⟩
  self := fun _ _ _ _ _ st h => wpAny_pyIter_rangeiter st h
end L2
namespace L2
open PySem PySem.Spec PyProof.Rows
section
variable {X : Cx} {tg : Expr}
noncomputable def Uk (K : PySem.W.Frag) (tl : TE) : TI := fun σ H R => tl σ H fun x H1 => ∃ a, x = .ref a ∧ (∃ xs, SqL K H1 a xs) ∧ R (Itl K a) H1
noncomputable def JC (K : PySem.W.Frag) (tl : TE) : TI := fun σ H R => tl σ H fun x H1 => ∃ a, x = .ref a ∧ (∃ xs, SqT K H1 a xs) ∧ R (Itt K a) H1
theorem zaL {l : Expr} {tl : TE} (hl : PE X l tl) : PI X tg l (Uk X.K tl) := by
  intro pins s σ H R I h
  refine thn (hl pins s σ H _ I h) fun v s1 ⟨x, H1, I1, r1, q1⟩ => ?_
  obtain ⟨a, e, ⟨xs, hq⟩, q⟩ := q1
  subst e
  cases r1
  obtain ⟨its, rv, p, hz⟩ := I1.list hq
  refine wpAny_pyIter_list p.isList ?_
  refine ⟨s1.heap.objs.size, [s1.heap.objs.size], _, _, H1, rfl, I1.kept (t' := s1.toks) fun b o e => Heap.get?_push_of_some _ e, QE a _, ⟨_, Heap.get?_push_size _ rfl, rfl, rfl⟩, fun b hb => ?_, q⟩
  have e : b = s1.heap.objs.size := by simpa using hb
  subst e
  exact I1.fpOk (Nat.le_refl _) (I1.hok.fresh (Nat.le_refl _))
theorem zb5 {l : Expr} {tl : TE} (hl : PE X l tl) : PI X tg l (JC X.K tl) := by
  intro pins s σ H R I h
  refine thn (hl pins s σ H _ I h) fun v s1 ⟨x, H1, I1, r1, q1⟩ => ?_
  obtain ⟨a, e, ⟨xs, hq⟩, q⟩ := q1
  subst e
  cases r1
  obtain ⟨its, rv, p, hz⟩ := I1.tuple hq
  refine wpAny_pyIter_tuple (show s1.heap.IsTuple a its.toArray from p) ?_
  refine ⟨s1.heap.objs.size, [s1.heap.objs.size], _, _, H1, rfl, I1.kept (t' := s1.toks) fun b o e => Heap.get?_push_of_some _ e, Ui a _, ⟨_, Heap.get?_push_size _ rfl, rfl, rfl⟩, fun b hb => ?_, q⟩
  have e : b = s1.heap.objs.size := by simpa using hb
  subst e
  exact I1.fpOk (Nat.le_refl _) (I1.hok.fresh (Nat.le_refl _))
theorem Y7 {pins : List (Addr × Obj)} {σ : St} {H : Hp} {s : Shared} {R : It → Hp → Prop} {E : Value → Shared → Prop} {lo hi : Int} {t u v : Tok} {tk : Nat} (I : Inv X pins σ H s) (h1 : -(2 ^ 62) ≤ lo) (h2 : lo < 2 ^ 62) (h3 : -(2 ^ 62) ≤ hi) (h4 : hi < 2 ^ 62)
    (q : R (Itr lo (hi - lo).toNat) H) : wpAny (model X.prog X.w) X.A (pyIter (.ref s.heap.objs.size)) (PIE X pins σ tg R) E { s with heap := s.heap.push { cls := .type "range", data := .fields #[.int lo t, .int hi u, .int 1 v] }, toks := tk } := by
  refine wpAny_pyIter_range (IsRange.new ..) (small_one h1 h2 h3 h4) ?_
  have I1 : Inv X pins σ H { s with heap := s.heap.push { cls := .type "range", data := .fields #[.int lo t, .int hi u, .int 1 v] }, toks := tk } := I.kept fun b o e => Heap.get?_push_of_some _ e
  refine ⟨(s.heap.push { cls := .type "range", data := .fields #[.int lo t, .int hi u, .int 1 v] }).objs.size, [(s.heap.push { cls := .type "range", data := .fields #[.int lo t, .int hi u, .int 1 v] }).objs.size], _, _, H, rfl,
    I1.kept (t' := tk) fun b o e => Heap.get?_push_of_some _ e, Uj _ lo (hi - lo).toNat, ?_, fun b hb => ?_, q⟩
  · have e1 : lo + ((0 : Nat) : Int) * 1 = lo := by simp
    have e2 : (((hi - lo).toNat : Nat) : Int) - ((0 : Nat) : Int) = Builtin.Range.rangeSize lo hi 1 := by rw [rangeSize_one]; split <;> omega
    show IsRangeIter _ _ (lo + ((0 : Nat) : Int) * 1) ((((hi - lo).toNat : Nat) : Int) - ((0 : Nat) : Int)) 1
    rw [e1, e2]
    exact Heap.get?_push_size _ rfl
  · have e : b = (s.heap.push { cls := .type "range", data := .fields #[.int lo t, .int hi u, .int 1 v] }).objs.size := by simpa using hb
    subst e
    exact I1.fpOk (Nat.le_refl _) (I1.hok.fresh (Nat.le_refl _))
noncomputable def K0 (ta : TA) : TI := fun σ H R => ta σ H fun vs H1 => ∃ j : Int, vs = [.int j] ∧ -(2 ^ 62) ≤ j ∧ j < 2 ^ 62 ∧ R (Itr 0 j.toNat) H1
noncomputable def K1 (ta : TA) : TI := fun σ H R => ta σ H fun vs H1 => ∃ i j : Int, vs = [.int i, .int j] ∧ (-(2 ^ 62) ≤ i ∧ i < 2 ^ 62 ∧ -(2 ^ 62) ≤ j ∧ j < 2 ^ 62) ∧ R (Itr i (j - i).toNat) H1
theorem xP {a : Expr} {ta : TA} {p pos : Pos} (hg : Gl X "range") (hm : X.mg "range" = none) (ha : PA X [a] ta) (hs : starEach [a] X.env = [(false, eval a X.env)] := by rfl) : PI X tg (.Call (.Name "range" p) [a] [] pos) (K0 ta) := by
  intro pins s σ H R I h
  refine Call_ (uA I hg hm boot_range (PyProof.Rows.callWith_type1 (thn (ha pos pins s σ H _ I h) fun us s1 ⟨vs, H1, I1, r1, q1⟩ => ?_) hs rfl))
  obtain ⟨j, e, q1, q2, q⟩ := q1
  subst e
  cases r1 with
  | cons r rr =>
    cases rr
    obtain ⟨t, rfl⟩ := r
    exact call_range_1 (Y7 I1 (by omega) (by omega) q1 q2 (by simpa using q))
theorem vY {a b : Expr} {ta : TA} {p pos : Pos} (hg : Gl X "range") (hm : X.mg "range" = none) (ha : PA X [a, b] ta) (hs : starEach [a, b] X.env = [(false, eval a X.env), (false, eval b X.env)] := by rfl) (hs2 : starEach [b] X.env = [(false, eval b X.env)] := by rfl) :
    PI X tg (.Call (.Name "range" p) [a, b] [] pos) (K1 ta) := by
  intro pins s σ H R I h
  refine Call_ (uA I hg hm boot_range (PyProof.Rows.callWith_type1 (thn (ha pos pins s σ H _ I h) fun us s1 ⟨vs, H1, I1, r1, q1⟩ => ?_) (by rw [hs, hs2]) (by rw [hs2]; rfl)))
  obtain ⟨i, j, e, ⟨q1, q2, q3, q4⟩, q⟩ := q1
  subst e
  cases r1 with
  | cons r rr =>
    cases rr with
    | cons r' rr =>
      cases rr
      obtain ⟨t, rfl⟩ := r
      obtain ⟨t', rfl⟩ := r'
      exact call_range_2 (Y7 I1 q1 q2 q3 q4 q)
noncomputable def zb6 (wi : TI) (g : TG) (tb : TS) : TS := fun D σ H => wi σ H fun J H1 => ∃ W : Nat → Nat → St → Hp → Prop, (∃ m, W 0 m σ H1) ∧ ∀ i m σ H, W i m σ H →
  (J.stop i H ∧ D.nx σ H) ∨ (J.go i H ∧ ∃ N : St → Hp → Prop, (∀ σ' H', N σ' H' → ∃ m', m' < m ∧ W (i + 1) m' σ' H') ∧ ∀ x H', J.yld i H x H' → g x σ H' fun σ2 H2 => tb { D with nx := N, ct := N, bk := D.nx } σ2 H2)
noncomputable def jw (fp : List Addr) (h : Heap) : List (Addr × Obj) := fp.filterMap fun b => (h.get? b).map fun o => (b, o)
theorem um {fp : List Addr} {h : Heap} {b : Addr} {o : Obj} (hb : b ∈ fp) (e : h.get? b = some o) : (b, o) ∈ jw fp h := List.mem_filterMap.mpr ⟨b, hb, by rw [e]; rfl⟩
theorem QF {fp : List Addr} {h : Heap} {p : Addr × Obj} (hp : p ∈ jw fp h) : p.1 ∈ fp ∧ h.get? p.1 = some p.2 := by
  obtain ⟨b, hb, e⟩ := List.mem_filterMap.mp hp
  cases q : h.get? b with
  | none => rw [q] at e; cases e
  | some o =>
    rw [q] at e
    have e' : (b, o) = p := Option.some.inj e
    subst e'
    exact ⟨hb, q⟩
theorem Inv.pinned {pins : List (Addr × Obj)} {σ : St} {H : Hp} {s : Shared} {fp : List Addr} (I : Inv X pins σ H s) (hf : ∀ b ∈ fp, FpOk X pins H b) (ho : ∀ b ∈ fp, ∃ o, s.heap.get? b = some o ∧ ∀ v, o.data ≠ .cell v) : Inv X (pins ++ jw fp s.heap) σ H s :=
  I.pins_of fun p hp => (List.mem_append.mp hp).elim (fun z => I.pin p (List.mem_append_right _ z)) fun z => by
    obtain ⟨hb, e⟩ := QF z
    obtain ⟨f0, f1, f2, _⟩ := hf p.1 hb
    obtain ⟨o, e', d⟩ := ho p.1 hb
    rw [e] at e'; cases e'
    exact ⟨e, f0, f1, f2, d⟩
theorem Inv.unpinned {pins pl : List (Addr × Obj)} {σ : St} {H : Hp} {s : Shared} (I : Inv X (pins ++ pl) σ H s) : Inv X pins σ H s := I.pins_of fun p hp => I.pin p (List.mem_append_right _ (List.mem_append_left _ hp))
theorem xK {iter : Expr} {body : List Stmt} {wi : TI} {g : TG} {tb : TS} {pos : Pos} (hp : PassesOwn (model X.prog X.w) X.A X.env X.xe) (hc : X.calm = true) (hi : PI X tg iter wi) (hg : PG X tg g) (hb : PSs X body tb)
    (hs : ∀ x, foldedSetIterable iter X.env x = pure x := by intro _; rfl) : PS X (.For tg iter body [] pos) (zb6 wi g tb) := by
  intro pins s σ H D I h
  refine wpAny_For (thn (hi pins s σ H _ I h) fun v s1 h1 => thn h1 fun itv s2 h2 => ?_) hs
  obtain ⟨it, fp, tn, J, H2, e, I2, T, st2, f2, W, ⟨m0, w0⟩, turn⟩ := h2
  subst e
  have stat : ∀ {H' : Hp}, (∀ b ∈ fp, H' b = none) → ∀ b ∈ fp, FpOk X pins H' b := fun hn b hb => ⟨hn b hb, (f2 b hb).2⟩
  refine codeAny_forLoop_any (fun n s' => ∃ i σ' H', Inv X pins σ' H' s' ∧ tn i s'.heap ∧ (∀ b ∈ fp, H' b = none) ∧ W i n σ' H') ?_ m0 ⟨0, σ, H2, I2, st2, fun b hb => (f2 b hb).1, w0⟩
  rintro n s3 ⟨i, σ3, H3, I3, st3, fr3, w3⟩
  rcases turn i n σ3 H3 w3 with ⟨stop, qn⟩ | ⟨go, N, hN, step⟩
  · refine wpAny_passesOwn hp (thn (T.done X rfl rfl rfl hc i pins s3 σ3 H3 X.xe I3 (stat fr3) st3 stop) fun r s4 ⟨hr, I4⟩ => ?_)
    subst hr
    exact wpAny_execs_nil ⟨σ3, H3, I4, qn⟩
  · refine wpAny_passesOwn hp (thn (T.item X rfl rfl rfl hc i pins s3 σ3 H3 X.xe I3 (stat fr3) st3 go) fun r s4 ⟨u, hr, h4⟩ => ?_)
    subst hr
    refine wpAny_passesOwn hp (thn h4 fun _ s5 ⟨x, H5, I5, r5, y5, st5, fr5⟩ => ?_)
    have I5' := I5.pinned (stat fr5) (T.obj _ _ st5)
    refine wpAny_passesOwn hp (thn (hg _ s5 σ3 H5 x u _ I5' r5 (step x H5 y5)) fun _ s6 ⟨σ6, H6, I6, q6⟩ => ?_)
    refine wpAny_passesOwn hp (thn (hb _ s6 σ6 H6 _ I6 q6) fun f s7 q7 => ?_)
    have again : ∀ {σ7 : St} {H7 : Hp}, Inv X (pins ++ jw fp s5.heap) σ7 H7 s7 → N σ7 H7 → ∃ m, m < n ∧ ∃ i σ' H', Inv X pins σ' H' s7 ∧ tn i s7.heap ∧ (∀ b ∈ fp, H' b = none) ∧ W i m σ' H' := fun {σ7 H7} I7 n7 => by
      obtain ⟨m', hm, w7⟩ := hN σ7 H7 n7
      refine ⟨m', hm, i + 1, σ7, H7, I7.unpinned, T.keep _ _ _ st5 fun b hb o e => (I7.pin (b, o) (List.mem_append_right _ (List.mem_append_right _ (um hb e)))).1, fun b hb => ?_, w7⟩
      obtain ⟨o, e, d⟩ := T.obj _ _ st5 b hb
      exact (I7.pin (b, o) (List.mem_append_right _ (List.mem_append_right _ (um hb e)))).2.1
    cases f with
    | next => obtain ⟨σ7, H7, I7, n7⟩ := q7; exact again I7 n7
    | cont => obtain ⟨σ7, H7, I7, n7⟩ := q7; exact again I7 n7
    | brk => obtain ⟨σ7, H7, I7, q7⟩ := q7; exact ⟨σ7, H7, I7.unpinned, q7⟩
    | ret v => obtain ⟨x7, σ7, H7, I7, r7, q7⟩ := q7; exact ⟨x7, σ7, H7, I7.unpinned, r7, q7⟩
end
theorem JD {K : PySem.W.Frag} {a : Addr} {xs : List V} {g : TG} {tb : TS} {D : Ends} {σ : St} {H : Hp} (Pv : Nat → St → Hp → Prop) (h0 : Pv 0 σ H) (hl : ∀ i σ H, i ≤ xs.length → Pv i σ H → SqL K H a xs)
    (hs : ∀ i x σ H, xs[i]? = some x → Pv i σ H → g x σ H fun σ2 H2 => tb { D with nx := Pv (i + 1), ct := Pv (i + 1), bk := D.nx } σ2 H2) (hd : ∀ σ H, Pv xs.length σ H → D.nx σ H) :
    ∃ W : Nat → Nat → St → Hp → Prop, (∃ m, W 0 m σ H) ∧ ∀ i m σ H, W i m σ H →
      ((Itl K a).stop i H ∧ D.nx σ H) ∨ ((Itl K a).go i H ∧ ∃ N : St → Hp → Prop, (∀ σ' H', N σ' H' → ∃ m', m' < m ∧ W (i + 1) m' σ' H') ∧ ∀ x H', (Itl K a).yld i H x H' → g x σ H' fun σ2 H2 => tb { D with nx := N, ct := N, bk := D.nx } σ2 H2) := by
  refine ⟨fun i m σ H => m = xs.length - i ∧ i ≤ xs.length ∧ Pv i σ H, ⟨xs.length, by simp, Nat.zero_le _, h0⟩, ?_⟩
  rintro i m σ H ⟨rfl, hi, p⟩
  have q := hl i σ H hi p
  by_cases hlt : i < xs.length
  · refine .inr ⟨⟨xs, xs[i], q, by simp [hlt]⟩, Pv (i + 1), fun σ' H' p' => ⟨xs.length - (i + 1), by omega, rfl, hlt, p'⟩, fun x H' y => ?_⟩
    obtain ⟨e, y⟩ := y
    subst e
    exact hs i x σ _ (y xs q) p
  · have e : i = xs.length := by omega
    subst e
    exact .inl ⟨⟨xs, q, Nat.le_refl _⟩, hd σ H p⟩
theorem zaM {K : PySem.W.Frag} {a : Addr} {xs : List V} {g : TG} {tb : TS} {D : Ends} {σ : St} {H : Hp} (Pv : Nat → St → Hp → Prop) (h0 : Pv 0 σ H) (hl : ∀ i σ H, i ≤ xs.length → Pv i σ H → SqT K H a xs)
    (hs : ∀ i x σ H, xs[i]? = some x → Pv i σ H → g x σ H fun σ2 H2 => tb { D with nx := Pv (i + 1), ct := Pv (i + 1), bk := D.nx } σ2 H2) (hd : ∀ σ H, Pv xs.length σ H → D.nx σ H) :
    ∃ W : Nat → Nat → St → Hp → Prop, (∃ m, W 0 m σ H) ∧ ∀ i m σ H, W i m σ H →
      ((Itt K a).stop i H ∧ D.nx σ H) ∨ ((Itt K a).go i H ∧ ∃ N : St → Hp → Prop, (∀ σ' H', N σ' H' → ∃ m', m' < m ∧ W (i + 1) m' σ' H') ∧ ∀ x H', (Itt K a).yld i H x H' → g x σ H' fun σ2 H2 => tb { D with nx := N, ct := N, bk := D.nx } σ2 H2) := by
  refine ⟨fun i m σ H => m = xs.length - i ∧ i ≤ xs.length ∧ Pv i σ H, ⟨xs.length, by simp, Nat.zero_le _, h0⟩, ?_⟩
  rintro i m σ H ⟨rfl, hi, p⟩
  have q := hl i σ H hi p
  by_cases hlt : i < xs.length
  · refine .inr ⟨⟨xs, xs[i], q, by simp [hlt]⟩, Pv (i + 1), fun σ' H' p' => ⟨xs.length - (i + 1), by omega, rfl, hlt, p'⟩, fun x H' y => ?_⟩
    obtain ⟨e, y⟩ := y
    subst e
    exact hs i x σ _ (y xs q) p
  · have e : i = xs.length := by omega
    subst e
    exact .inl ⟨⟨xs, q, Nat.le_refl _⟩, hd σ H p⟩
theorem QG {lo : Int} {n : Nat} {g : TG} {tb : TS} {D : Ends} {σ : St} {H : Hp} (Pv : Nat → St → Hp → Prop) (h0 : Pv 0 σ H)
    (hs : ∀ i σ H, i < n → Pv i σ H → g (.int (lo + i)) σ H fun σ2 H2 => tb { D with nx := Pv (i + 1), ct := Pv (i + 1), bk := D.nx } σ2 H2) (hd : ∀ σ H, Pv n σ H → D.nx σ H) :
    ∃ W : Nat → Nat → St → Hp → Prop, (∃ m, W 0 m σ H) ∧ ∀ i m σ H, W i m σ H →
      ((Itr lo n).stop i H ∧ D.nx σ H) ∨ ((Itr lo n).go i H ∧ ∃ N : St → Hp → Prop, (∀ σ' H', N σ' H' → ∃ m', m' < m ∧ W (i + 1) m' σ' H') ∧ ∀ x H', (Itr lo n).yld i H x H' → g x σ H' fun σ2 H2 => tb { D with nx := N, ct := N, bk := D.nx } σ2 H2) := by
  refine ⟨fun i m σ H => m = n - i ∧ i ≤ n ∧ Pv i σ H, ⟨n, by simp, Nat.zero_le _, h0⟩, ?_⟩
  rintro i m σ H ⟨rfl, hi, p⟩
  by_cases hlt : i < n
  · refine .inr ⟨hlt, Pv (i + 1), fun σ' H' p' => ⟨n - (i + 1), by omega, rfl, hlt, p'⟩, fun x H' y => ?_⟩
    obtain ⟨e, y⟩ := y
    subst e y
    exact hs i σ _ hlt p
  · have e : i = n := by omega
    subst e
    exact .inl ⟨Nat.le_refl _, hd σ H p⟩
end L2
namespace L2
open PySem PySem.Spec PyProof.Rows
noncomputable abbrev R2 := V → V → Hp → VK → Prop
noncomputable def OpR (X : Cx) (f : Value → Value → Sem Value) (r : R2) : Prop :=
  ∀ (pins : List (Addr × Obj)) (s : Shared) (σ : St) (H : Hp) (x y : V) (v u : Value) (Q : VK), Inv X pins σ H s → RelV x v → RelV y u → r x y H Q →
    wpAny (model X.prog X.w) X.A (f v u) (EP X pins σ Q) X.xe s
noncomputable def UnR (X : Cx) (f : Value → Sem Value) (r : V → Hp → VK → Prop) : Prop :=
  ∀ (pins : List (Addr × Obj)) (s : Shared) (σ : St) (H : Hp) (x : V) (v : Value) (Q : VK), Inv X pins σ H s → RelV x v → r x H Q →
    wpAny (model X.prog X.w) X.A (f v) (EP X pins σ Q) X.xe s
noncomputable def xo (X : Cx) (f : Value) (r : List V → Hp → VK → Prop) : Prop :=
  ∀ (pins : List (Addr × Obj)) (s : Shared) (σ : St) (H : Hp) (xs : List V) (us : List Value) (Q : VK), Inv X pins σ H s → Vals xs us → r xs H Q →
    wpAny (model X.prog X.w) X.A (call f us) (EP X pins σ Q) X.xe s
noncomputable def zd8 (X : Cx) (r : V → Hp → (Bool → Hp → Prop) → Prop) : Prop :=
  ∀ (pins : List (Addr × Obj)) (s : Shared) (σ : St) (H : Hp) (x : V) (v : Value) (Q : Bool → Hp → Prop), Inv X pins σ H s → RelV x v → r x H Q →
    wpAny (model X.prog X.w) X.A (truthy v) (TP X pins σ Q) X.xe s
noncomputable def tOp (r : R2) (ta tb : TE) : TE := fun σ H Q => ta σ H fun x H1 => tb σ H1 fun y H2 => r x y H2 Q
noncomputable def tUn (r : V → Hp → VK → Prop) (ta : TE) : TE := fun σ H Q => ta σ H fun x H1 => r x H1 Q
noncomputable def rI (C : Int → Int → Prop) (g : Int → Int → V) : R2 := fun x y H Q => ∃ i j, x = .int i ∧ y = .int j ∧ C i j ∧ Q (g i j) H
noncomputable def rI0 (g : Int → Int → V) : R2 := fun x y H Q => ∃ i j, x = .int i ∧ y = .int j ∧ Q (g i j) H
noncomputable def rU (g : Int → V) : V → Hp → VK → Prop := fun x H Q => ∃ i, x = .int i ∧ Q (g i) H
section
variable {X : Cx} {a b c : Expr} {ta tb tc : TE} {pos : Pos}
theorem JE (ha : PE X a ta) (hb : PE X b tb) {pins : List (Addr × Obj)} {s : Shared} {σ : St} {H : Hp} {R : V → V → Hp → Prop} (I : Inv X pins σ H s)
    (h : ta σ H fun x H1 => tb σ H1 fun y H2 => R x y H2) {Q : Value → Shared → Prop} {f : Value → Value → Sem Value}
    (hf : ∀ v u s2 x y H2, Inv X pins σ H2 s2 → RelV x v → RelV y u → R x y H2 → wpAny (model X.prog X.w) X.A (f v u) Q X.xe s2) :
    wpAny (model X.prog X.w) X.A (eval a X.env) (fun v s₁ => wpAny (model X.prog X.w) X.A (eval b X.env) (fun u s₂ => wpAny (model X.prog X.w) X.A (f v u) Q X.xe s₂) X.xe s₁) X.xe s := by
  refine thn (ha pins s σ H _ I h) fun v s1 ⟨x, H1, I1, r1, q1⟩ => ?_
  refine thn (hb pins s1 σ H1 _ I1 q1) fun u s2 ⟨y, H2, I2, r2, q2⟩ => ?_
  exact hf v u s2 x y H2 I2 r1 r2 q2
theorem zg {op : Operator} {r : R2} (ho : OpR X (binaryOp op) r) (ha : PE X a ta) (hb : PE X b tb) : PE X (.BinOp a op b pos) (tOp r ta tb) := by
  intro pins s σ H Q I h
  exact wpAny_BinOp (JE ha hb I h fun v u s2 x y H2 I2 rx ry q => ho pins s2 σ H2 x y v u Q I2 rx ry q)
theorem Ul {op : UnaryOp} {r : V → Hp → VK → Prop} (ho : UnR X (unaryOp op) r) (ha : PE X a ta) : PE X (.UnaryOp op a pos) (tUn r ta) := by
  intro pins s σ H Q I h
  exact UnaryOp_ (thn (ha pins s σ H _ I h) fun v s1 ⟨x, H1, I1, r1, q1⟩ => ho pins s1 σ H1 x v Q I1 r1 q1)
theorem opI {f : Value → Value → Sem Value} {C : Int → Int → Prop} {g : Int → Int → Int}
    (rule : ∀ (i j : Int) (t u : Tok) (s : Shared) (Q : Value → Shared → Prop) (E : Value → Shared → Prop), C i j → Q (.int (g i j) s.toks) { s with toks := s.toks + 1 } → wpAny (model X.prog X.w) X.A (f (.int i t) (.int j u)) Q E s) :
    OpR X f (rI C fun i j => .int (g i j)) := by
  intro pins s σ H x y v u Q I rx ry h
  obtain ⟨i, j, rfl, rfl, hc, q⟩ := h
  obtain ⟨t, rfl⟩ := rx
  obtain ⟨t', rfl⟩ := ry
  exact rule i j t t' s _ _ hc ⟨.int (g i j), H, I.tok _, ⟨_, rfl⟩, q⟩
theorem Y8 {f : Value → Value → Sem Value} {g : Int → Int → Int}
    (rule : ∀ (i j : Int) (t u : Tok) (s : Shared) (Q : Value → Shared → Prop) (E : Value → Shared → Prop), Q (.int (g i j) s.toks) { s with toks := s.toks + 1 } → wpAny (model X.prog X.w) X.A (f (.int i t) (.int j u)) Q E s) :
    OpR X f (rI0 fun i j => .int (g i j)) := by
  intro pins s σ H x y v u Q I rx ry h
  obtain ⟨i, j, rfl, rfl, q⟩ := h
  obtain ⟨t, rfl⟩ := rx
  obtain ⟨t', rfl⟩ := ry
  exact rule i j t t' s _ _ ⟨.int (g i j), H, I.tok _, ⟨_, rfl⟩, q⟩
theorem Um {f : Value → Value → Sem Value} {g : Int → Int → Bool}
    (rule : ∀ (i j : Int) (t u : Tok) (s : Shared) (Q : Value → Shared → Prop) (E : Value → Shared → Prop), Q (.bool (g i j)) s → wpAny (model X.prog X.w) X.A (f (.int i t) (.int j u)) Q E s) :
    OpR X f (rI0 fun i j => .bl (g i j)) := by
  intro pins s σ H x y v u Q I rx ry h
  obtain ⟨i, j, rfl, rfl, q⟩ := h
  obtain ⟨t, rfl⟩ := rx
  obtain ⟨t', rfl⟩ := ry
  exact rule i j t t' s _ _ ⟨.bl (g i j), H, I, rfl, q⟩
noncomputable def xy (i j : Int) : Prop := 0 < j ∧ j < 1073741824
noncomputable def Z0 (i j : Int) : Prop := (-(2 ^ 64) < i ∧ i < 2 ^ 64) ∨ (-(2 ^ 64) < j ∧ j < 2 ^ 64)
theorem Z0.ok {i j : Int} (h : Z0 i j) : IntMulOk i j := by
  rcases h with ⟨h1, h2⟩ | ⟨h1, h2⟩
  · exact .of_left (intBits_le_64 h1 h2)
  · exact .of_right (intBits_le_64 h1 h2)
theorem Uo (k : Nat) : (0 : Int) ≤ 2 ^ k := by
  rw [two_pow_cast]
  exact Int.natCast_nonneg _
theorem yC : OpR X (binaryOp .Add) (rI0 fun i j => .int (i + j)) := Y8 fun _ _ _ _ _ _ _ q => add_int q
theorem y6 : OpR X (binaryOp .Sub) (rI0 fun i j => .int (i - j)) := Y8 fun _ _ _ _ _ _ _ q => sub_int q
theorem yF : OpR X (binaryOp .FloorDiv) (rI xy fun i j => .int (i / j)) := opI fun i j _ _ _ _ _ hc q => by
  have h1 : (0 : Int) < j := hc.1
  have h2 : j < 1073741824 := hc.2
  exact floordiv_int (by omega) (by rw [Int.fdiv_eq_ediv_of_nonneg i (by omega)]; exact q) (.inl (PyProof.noPylong_small (by omega)))
theorem yH : OpR X (binaryOp .Mod) (rI (fun _ j => 0 < j) fun i j => .int (i % j)) := opI fun i j _ _ _ _ _ hc q => by
  have h1 : (0 : Int) < j := hc
  exact mod_int' (by omega) (by rw [Int.fmod_eq_emod_of_nonneg i (by omega)]; exact q)
theorem QH : OpR X (binaryOp .RShift) (rI (fun _ j => 0 ≤ j) fun i j => .int (i / 2 ^ j.toNat)) := opI fun i j _ _ _ _ _ hc q =>
  rshift_int hc (by rw [Int.fdiv_eq_ediv_of_nonneg i (Uo _)]; exact q)
theorem Za : OpR X (binaryOp .BitAnd) (rI0 fun i j => .int (Builtin.bitAnd i j)) := Y8 fun _ _ _ _ _ _ _ q => and_int q
theorem zdr : OpR X (binaryOp .BitOr) (rI0 fun i j => .int (Builtin.bitOr i j)) := Y8 fun _ _ _ _ _ _ _ q => or_int q
theorem zb7 : OpR X (binaryOp .BitXor) (rI0 fun i j => .int (Builtin.bitXor i j)) := Y8 fun _ _ _ _ _ _ _ q => xor_int q
theorem unI {f : Value → Sem Value} {g : Int → Int}
    (rule : ∀ (i : Int) (t : Tok) (s : Shared) (Q : Value → Shared → Prop) (E : Value → Shared → Prop), Q (.int (g i) s.toks) { s with toks := s.toks + 1 } → wpAny (model X.prog X.w) X.A (f (.int i t)) Q E s) :
    UnR X f (rU fun i => .int (g i)) := by
  intro pins s σ H x v Q I rx h
  obtain ⟨i, rfl, q⟩ := h
  obtain ⟨t, rfl⟩ := rx
  exact rule i t s _ _ ⟨.int (g i), H, I.tok _, ⟨_, rfl⟩, q⟩
theorem QI : UnR X (unaryOp .USub) (rU fun i => .int (-i)) := unI fun _ _ _ _ _ q => neg_int q
theorem zb8 : UnR X (unaryOp .Invert) (rU fun i => .int (Builtin.bitNot i)) := unI fun _ _ _ _ _ q => invert_int q
end
noncomputable def kI : V → V → Bool
  | .non, .non => true | .non, .int _ => true | .int _, .non => true | .non, .bl _ => true | .bl _, .non => true | .non, .str _ => true | .str _, .non => true
  | .int _, .int _ => true | .bl _, .bl _ => true | .str _, .str _ => true | .byt _, .byt _ => true
  | .int _, .str _ => true | .str _, .int _ => true | .bl _, .str _ => true | .str _, .bl _ => true
  | _, _ => false
noncomputable def rEq : R2 := fun x y H Q => kI x y = true ∧ Q (.bl (decide (x = y))) H
noncomputable def rNe : R2 := fun x y H Q => kI x y = true ∧ Q (.bl (!decide (x = y))) H
theorem VS {i j : Int} : decide (V.int i = V.int j) = (i == j) := by
  rw [Bool.eq_iff_iff]
  simp
theorem QJ {i j : Bool} : decide (V.bl i = V.bl j) = (i == j) := by
  rw [Bool.eq_iff_iff]
  simp
theorem VT {i j : Str} : decide (V.str i = V.str j) = (i == j) := by
  rw [Bool.eq_iff_iff]
  simp
theorem VU {i j : Array UInt8} : decide (V.byt i = V.byt j) = (i.toList == j.toList) := by
  rw [Bool.eq_iff_iff]
  cases i
  cases j
  simp
section
variable {X : Cx} {a b c : Expr} {ta tb tc : TE} {pos : Pos}
theorem yK {pins : List (Addr × Obj)} {σ : St} {H : Hp} {s : Shared} {Q : VK} {k k' : Bool} (I : Inv X pins σ H s) (q : Q (.bl k) H) (e : k = k') : EP X pins σ Q (.bool k') s := by
  subst e
  exact ⟨.bl k, H, I, rfl, q⟩
theorem yX : OpR X (compareOp .Eq) rEq := by
  intro pins s σ H x y v u Q I rx ry h
  obtain ⟨hs, q⟩ := h
  cases x with
  | non =>
    cases rx
    cases y with
    | non => cases ry; exact PySem.EqNone.eq_none_none (yK I q (by simp))
    | bl j => cases ry; exact PySem.EqNone.eq_none_bool (yK I q (by simp))
    | int j => obtain ⟨t', rfl⟩ := ry; exact PySem.EqNone.eq_none_int (yK I q (by simp))
    | str j => obtain ⟨t', rfl⟩ := ry; exact PySem.EqNone.eq_none_str (yK I q (by simp))
    | _ => exact absurd (show false = true from hs) Bool.false_ne_true
  | bl i =>
    cases rx
    cases y with
    | non => cases ry; exact PySem.EqNone.eq_bool_none (yK I q (by simp))
    | bl j => cases ry; exact eq_bool (yK I q QJ)
    | str j => obtain ⟨t', rfl⟩ := ry; exact PySem.EqMixed.eq_bool_str (yK I q (by simp))
    | _ => exact absurd (show false = true from hs) Bool.false_ne_true
  | int i =>
    obtain ⟨t, rfl⟩ := rx
    cases y with
    | non => cases ry; exact PySem.EqNone.eq_int_none (yK I q (by simp))
    | int j => obtain ⟨t', rfl⟩ := ry; exact eq_int (yK I q VS)
    | str j => obtain ⟨t', rfl⟩ := ry; exact PySem.EqMixed.eq_int_str (yK I q (by simp))
    | _ => exact absurd (show false = true from hs) Bool.false_ne_true
  | str i =>
    obtain ⟨t, rfl⟩ := rx
    cases y with
    | non => cases ry; exact PySem.EqNone.eq_str_none (yK I q (by simp))
    | bl j => cases ry; exact PySem.EqMixed.eq_str_bool (yK I q (by simp))
    | int j => obtain ⟨t', rfl⟩ := ry; exact PySem.EqMixed.eq_str_int (yK I q (by simp))
    | str j => obtain ⟨t', rfl⟩ := ry; exact eq_str (yK I q VT)
    | _ => exact absurd (show false = true from hs) Bool.false_ne_true
  | byt i =>
    obtain ⟨t, rfl⟩ := rx
    cases y with
    | byt j => obtain ⟨t', rfl⟩ := ry; exact PySem.W.eq_bytes (yK I q VU)
    | _ => exact absurd (show false = true from hs) Bool.false_ne_true
  | _ => cases y <;> exact absurd (show false = true from hs) Bool.false_ne_true
theorem K2 : OpR X (compareOp .NotEq) rNe := by
  intro pins s σ H x y v u Q I rx ry h
  obtain ⟨hs, q⟩ := h
  cases x with
  | non =>
    cases rx
    cases y with
    | non => cases ry; exact PySem.EqNone.ne_none_none (yK I q (by simp))
    | bl j => cases ry; exact PySem.EqNone.ne_none_bool (yK I q (by simp))
    | int j => obtain ⟨t', rfl⟩ := ry; exact PySem.EqNone.ne_none_int (yK I q (by simp))
    | str j => obtain ⟨t', rfl⟩ := ry; exact PySem.EqNone.ne_none_str (yK I q (by simp))
    | _ => exact absurd (show false = true from hs) Bool.false_ne_true
  | bl i =>
    cases rx
    cases y with
    | non => cases ry; exact PySem.EqNone.ne_bool_none (yK I q (by simp))
    | bl j => cases ry; exact ne_bool (yK I q (congrArg not QJ))
    | str j => obtain ⟨t', rfl⟩ := ry; exact PySem.EqMixed.ne_bool_str (yK I q (by simp))
    | _ => exact absurd (show false = true from hs) Bool.false_ne_true
  | int i =>
    obtain ⟨t, rfl⟩ := rx
    cases y with
    | non => cases ry; exact PySem.EqNone.ne_int_none (yK I q (by simp))
    | int j => obtain ⟨t', rfl⟩ := ry; exact ne_int (yK I q (congrArg not VS))
    | str j => obtain ⟨t', rfl⟩ := ry; exact PySem.EqMixed.ne_int_str (yK I q (by simp))
    | _ => exact absurd (show false = true from hs) Bool.false_ne_true
  | str i =>
    obtain ⟨t, rfl⟩ := rx
    cases y with
    | non => cases ry; exact PySem.EqNone.ne_str_none (yK I q (by simp))
    | bl j => cases ry; exact PySem.EqMixed.ne_str_bool (yK I q (by simp))
    | int j => obtain ⟨t', rfl⟩ := ry; exact PySem.EqMixed.ne_str_int (yK I q (by simp))
    | str j => obtain ⟨t', rfl⟩ := ry; exact ne_str (yK I q (congrArg not VT))
    | _ => exact absurd (show false = true from hs) Bool.false_ne_true
  | byt i =>
    obtain ⟨t, rfl⟩ := rx
    cases y with
    | byt j => obtain ⟨t', rfl⟩ := ry; exact PySem.W.ne_bytes (yK I q (congrArg not VU))
    | _ => exact absurd (show false = true from hs) Bool.false_ne_true
  | _ => cases y <;> exact absurd (show false = true from hs) Bool.false_ne_true
theorem qT : OpR X (compareOp .Lt) (rI0 fun i j => .bl (decide (i < j))) := Um fun _ _ _ _ _ _ _ q => lt_int q
theorem yN : OpR X (compareOp .LtE) (rI0 fun i j => .bl (decide (i ≤ j))) := Um fun _ _ _ _ _ _ _ q => le_int q
theorem Zb : OpR X (compareOp .Gt) (rI0 fun i j => .bl (decide (j < i))) := Um fun _ _ _ _ _ _ _ q => gt_int q
theorem Zc : OpR X (compareOp .GtE) (rI0 fun i j => .bl (decide (j ≤ i))) := Um fun _ _ _ _ _ _ _ q => ge_int q
theorem vZ : OpR X (compareOp .In) (fun x y H Q => ∃ i j, x = .str i ∧ y = .str j ∧ Q (.bl (!(Builtin.Str.occurrences j i 0 j.length 1).isEmpty)) H) := by
  intro pins s σ H x y v u Q I rx ry h
  obtain ⟨i, j, rfl, rfl, q⟩ := h
  obtain ⟨t, rfl⟩ := rx
  obtain ⟨t', rfl⟩ := ry
  exact in_str (yK I q rfl)
theorem vB : OpR X (compareOp .Is) (fun x y H Q => y = .non ∧ Q (.bl (decide (x = .non))) H) := by
  intro pins s σ H x y v u Q I rx ry h
  obtain ⟨rfl, q⟩ := h
  cases ry
  refine is_none_gen (yK I q ?_)
  cases x <;> first
    | (cases rx; rfl)
    | (obtain ⟨t, rfl⟩ := rx; rfl)
theorem ka : OpR X (compareOp .IsNot) (fun x y H Q => y = .non ∧ Q (.bl (!decide (x = .non))) H) := by
  intro pins s σ H x y v u Q I rx ry h
  obtain ⟨rfl, q⟩ := h
  cases ry
  refine isnot_none_gen (yK I q ?_)
  cases x <;> first
    | (cases rx; rfl)
    | (obtain ⟨t, rfl⟩ := rx; rfl)
theorem OpR.or {f : Value → Value → Sem Value} {r r' : R2} (h : OpR X f r) (h' : OpR X f r') : OpR X f (fun x y H Q => r x y H Q ∨ r' x y H Q) := by
  intro pins s σ H x y v u Q I rx ry q
  rcases q with q | q
  · exact h pins s σ H x y v u Q I rx ry q
  · exact h' pins s σ H x y v u Q I rx ry q
theorem zJ (b : Expr) {op : CmpOp} (h : op ≠ .In := by decide) (h2 : op ≠ .NotIn := by decide) : behindInMarks op b = false := by
  have e1 : (op == CmpOp.In) = false := by cases op <;> first | rfl | exact absurd rfl h
  have e2 : (op == CmpOp.NotIn) = false := by cases op <;> first | rfl | exact absurd rfl h2
  cases b <;> simp [behindInMarks, e1, e2]
theorem xi {op : CmpOp} {r : R2} (ho : OpR X (compareOp op) r) (ha : PE X a ta) (hb : PE X b tb) (hm : behindInMarks op b = false) : PE X (.Compare a [op] [b] pos) (tOp r ta tb) := by
  intro pins s σ H Q I h
  exact wpAny_Compare1 (JE ha hb I h fun v u s2 x y H2 I2 rx ry q => ho pins s2 σ H2 x y v u Q I2 rx ry q) hm
noncomputable def Uq (t : TE) : TT := fun σ H Q => t σ H fun x H' => ∃ k, x = .bl k ∧ Q k H'
theorem zW {op : CmpOp} {r : R2} (ho : OpR X (compareOp op) r) (ha : PE X a ta) (hb : PE X b tb) (hm : behindInMarks op b = false) : PT X (.Compare a [op] [b] pos) (Uq (tOp r ta tb)) := by
  intro pins s σ H Q I h
  refine wpAny_isTrue_Compare1 (thn (ha pins s σ H _ I h) fun v s1 ⟨x, H1, I1, r1, q1⟩ => thn (hb pins s1 σ H1 _ I1 q1) fun u s2 ⟨y, H2, I2, r2, q2⟩ =>
    thn (ho pins s2 σ H2 x y v u _ I2 r1 r2 q2) fun c s3 ⟨z, H3, I3, r3, k, e, q3⟩ => ?_) hm
  subst e
  cases r3
  exact wpAny_truthy_bool ⟨H3, I3, q3⟩
noncomputable def Y9 (r r' : R2) (ta tb tc : TE) : TE := fun σ H Q => ta σ H fun x H1 => tb σ H1 fun y H2 => r x y H2 fun z H3 => ∃ k, z = .bl k ∧
  (if k = true then tc σ H3 fun w' H4 => r' y w' H4 Q else Q (.bl false) H3)
theorem uC {op op' : CmpOp} {r r' : R2} (ho : OpR X (compareOp op) r) (ho' : OpR X (compareOp op') r') (ha : PE X a ta) (hb : PE X b tb) (hc : PE X c tc)
    (hm : lastMarks [op, op'] [b, c] = false := by with_unfolding_all rfl) : PE X (.Compare a [op, op'] [b, c] pos) (Y9 r r' ta tb tc) := by
  intro pins s σ H Q I h
  refine Compare_chain (thn (ha pins s σ H _ I h) fun v s1 ⟨x, H1, I1, r1, q1⟩ => chain_link (thn (hb pins s1 σ H1 _ I1 q1) fun u s2 ⟨y, H2, I2, r2, q2⟩ =>
    thn (ho pins s2 σ H2 x y v u _ I2 r1 r2 q2) fun d s3 ⟨z, H3, I3, r3, k, e, q3⟩ => ?_)) hm
  subst e
  cases r3
  refine wpAny_truthy_bool ?_
  cases k with
  | false => exact ite_ff ⟨.bl false, H3, I3, rfl, q3⟩
  | true => exact ite_tt (chain_last (thn (hc pins s3 σ H3 _ I3 q3) fun w' s4 ⟨z', H4, I4, r4, q4⟩ => ho' pins s4 σ H4 y z' u w' Q I4 r2 r4 q4))
theorem xC {op op' : CmpOp} {r r' : R2} (ho : OpR X (compareOp op) r) (ho' : OpR X (compareOp op') r') (ha : PE X a ta) (hb : PE X b tb) (hc : PE X c tc)
    (hm : lastMarks [op, op'] [b, c] = false := by with_unfolding_all rfl) : PT X (.Compare a [op, op'] [b, c] pos) (Uq (Y9 r r' ta tb tc)) := by
  intro pins s σ H Q I h
  refine isTrue_chain (thn (ha pins s σ H _ I h) fun v s1 ⟨x, H1, I1, r1, q1⟩ => test_link (thn (hb pins s1 σ H1 _ I1 q1) fun u s2 ⟨y, H2, I2, r2, q2⟩ =>
    thn (ho pins s2 σ H2 x y v u _ I2 r1 r2 q2) fun d s3 ⟨z, H3, I3, r3, k, e, q3⟩ => ?_)) hm
  subst e
  cases r3
  refine wpAny_truthy_bool ?_
  cases k with
  | false =>
    obtain ⟨k', e', q'⟩ := q3
    cases e'
    exact ite_ff ⟨H3, I3, q'⟩
  | true =>
    refine ite_tt (test_last (thn (hc pins s3 σ H3 _ I3 q3) fun w' s4 ⟨z', H4, I4, r4, q4⟩ => thn (ho' pins s4 σ H4 y z' u w' _ I4 r2 r4 q4) fun d' s5 ⟨z2, H5, I5, r5, k2, e2, q5⟩ => ?_))
    subst e2
    cases r5
    exact wpAny_truthy_bool ⟨H5, I5, q5⟩
noncomputable def Xa (K : PySem.W.Frag) (x : V) (H : Hp) (k : Bool) : Prop :=
  match x with
  | .non => k = false
  | .bl b => k = b
  | .int i => k = (i != 0)
  | .str y => y.length ≤ sizeLine ∧ k = ((y.length : Int) != 0)
  | .byt y => y.size ≤ sizeLine ∧ k = ((y.size : Int) != 0)
  | .ref p => (∃ xs, SqL K H p xs ∧ k = !xs.isEmpty) ∨ (∃ xs, SqT K H p xs ∧ k = !xs.isEmpty) ∨ ∃ kvs, H p = some (.dK kvs) ∧ k = !kvs.isEmpty
  | _ => False
theorem Ur {κ : Type} {kvs : List (κ × V)} {vs : List (κ × Value)} (r : KV kvs vs) : (!vs.isEmpty) = !kvs.isEmpty := by
  cases r <;> rfl
theorem Zd {xs : List V} {its : List Value} (r : Vals xs its) : (!its.toArray.isEmpty) = !xs.isEmpty := by
  cases r <;> simp
theorem uD : (sizeLine : Nat) < 2 ^ 63 := by rw [sizeLine_eq]; decide
theorem zb9 : zd8 X (fun x H Q => ∃ k, Xa X.K x H k ∧ Q k H) := by
  intro pins s σ H x v Q I rx h
  obtain ⟨k, e, q⟩ := h
  have hl := uD
  have hs : sizeLine = 16777216 := sizeLine_eq
  cases x with
  | non =>
    cases rx
    have e' : k = false := e
    subst e'
    exact truthy_none ⟨H, I, q⟩
  | bl b =>
    cases rx
    have e' : k = b := e
    subst e'
    exact wpAny_truthy_bool ⟨H, I, q⟩
  | int i =>
    obtain ⟨t, rfl⟩ := rx
    have e' : k = (i != 0) := e
    subst e'
    exact PySem.P.truthy_int ⟨H, I, q⟩
  | str y =>
    obtain ⟨t, rfl⟩ := rx
    obtain ⟨hy, e'⟩ : y.length ≤ sizeLine ∧ k = ((y.length : Int) != 0) := e
    subst e'
    exact PySem.P.truthy_str (by omega) ⟨H, I.tok _, q⟩
  | byt y =>
    obtain ⟨t, rfl⟩ := rx
    obtain ⟨hy, e'⟩ : y.size ≤ sizeLine ∧ k = ((y.size : Int) != 0) := e
    subst e'
    exact PySem.W.truthy_bytes (by omega) ⟨H, I.tok _, q⟩
  | ref p =>
    cases rx
    have e' : (∃ xs, SqL X.K H p xs ∧ k = !xs.isEmpty) ∨ (∃ xs, SqT X.K H p xs ∧ k = !xs.isEmpty) ∨ ∃ kvs, H p = some (.dK kvs) ∧ k = !kvs.isEmpty := e
    rcases e' with ⟨xs, hx, e'⟩ | ⟨xs, hx, e'⟩ | ⟨kvs, hx, e'⟩
    · subst e'
      obtain ⟨its, r, pl, hz⟩ := I.list hx
      have hlen := r.length
      exact wpAny_truthy_list pl.isList (by simp only [List.size_toArray]; omega) ⟨H, I.tok _, by rw [Zd r]; exact q⟩
    · subst e'
      obtain ⟨its, r, pl, hz⟩ := I.tuple hx
      have hlen := r.length
      exact truthy_tuple pl (by simp only [List.size_toArray]; omega) ⟨H, I.tok _, by rw [Zd r]; exact q⟩
    · subst e'
      obtain ⟨hz, hS, vs, r, m⟩ : kvs.length ≤ sizeLine ∧ (p == sysModules) = false ∧ ∃ vs, KV kvs vs ∧ s.heap.DictOf (yT X.prog X.w) p vs := I.hok p _ hx
      have hlen : kvs.length = vs.length := Paired.length r
      exact wpAny_truthy_dict hS m (by omega) ⟨H, I.tok _, by rw [Ur r]; exact q⟩
  | _ => exact (show False from e).elim
theorem JF (ha : PE X a ta) (he : ∀ whole, isTrue a X.env whole = (do let v ← whole; standAt a.pos; holding [v] (truthy v))) :
    PT X a (fun σ H Q => ta σ H fun x H' => ∃ k, Xa X.K x H' k ∧ Q k H') := by
  intro pins s σ H Q I h
  exact isTrue_plain (thn (ha pins s σ H _ I h) fun v s1 ⟨x, H1, I1, r1, q1⟩ => zb9 pins s1 σ H1 x v Q I1 r1 q1) (he _)
theorem Us : OpR X (binaryOp .Add) (fun x y H Q => ∃ i j, x = .str i ∧ y = .str j ∧ i.length + j.length ≤ sizeLine ∧ Q (.str (i ++ j)) H) := by
  intro pins s σ H x y v u Q I rx ry h
  obtain ⟨i, j, rfl, rfl, hz, q⟩ := h
  obtain ⟨t, rfl⟩ := rx
  obtain ⟨t', rfl⟩ := ry
  exact add_str (fun t' tk => ⟨.str (i ++ j), H, I.tok _, ⟨_, rfl⟩, q⟩) hz
theorem YO {x : V} {us : List Value} (r : Vals [x] us) : ∃ u, us = [u] ∧ RelV x u := by
  cases r with
  | cons r1 r2 => cases r2; exact ⟨_, rfl, r1⟩
theorem K3 {x y : V} {us : List Value} (r : Vals [x, y] us) : ∃ u w', us = [u, w'] ∧ RelV x u ∧ RelV y w' := by
  cases r with
  | cons r1 r2 =>
    cases r2 with
    | cons r3 r4 => cases r4; exact ⟨_, _, rfl, r1, r3⟩
theorem jx (hc : X.calm = true) : xo X (.builtin "max") (fun xs H Q => ∃ i j, xs = [.int i, .int j] ∧ Q (.int (if j > i then j else i)) H) := by
  intro pins s σ H xs us Q I r h
  obtain ⟨i, j, rfl, q⟩ := h
  obtain ⟨u, w', rfl, ⟨t, rfl⟩, ⟨t', rfl⟩⟩ := K3 r
  refine max_two_ints (I.ok.hd hc) fun h' tk k => ⟨_, H, I.kept k, ?_, q⟩
  by_cases hj : j > i
  · rw [if_pos hj, if_pos hj]; exact ⟨_, rfl⟩
  · rw [if_neg hj, if_neg hj]; exact ⟨_, rfl⟩
theorem x4 (hc : X.calm = true) : xo X (.builtin "min") (fun xs H Q => ∃ i j, xs = [.int i, .int j] ∧ Q (.int (if j < i then j else i)) H) := by
  intro pins s σ H xs us Q I r h
  obtain ⟨i, j, rfl, q⟩ := h
  obtain ⟨u, w', rfl, ⟨t, rfl⟩, ⟨t', rfl⟩⟩ := K3 r
  refine min_two_ints (I.ok.hd hc) fun h' tk k => ⟨_, H, I.kept k, ?_, q⟩
  by_cases hj : j < i
  · rw [if_pos hj, if_pos hj]; exact ⟨_, rfl⟩
  · rw [if_neg hj, if_neg hj]; exact ⟨_, rfl⟩
end
end L2
namespace L2
open PySem PySem.Spec PyProof.Rows
structure ObjM (h : Heap) (x dx C : Addr) (mA : Str → Option Value) : Prop where
  obj : h.get? x = some (PySem.W.instObj C dx)
  ns : h.Ns1 dx mA
  ne : dx ≠ x
theorem QK {h : Heap} {dx : Addr} {mA : Str → Option Value} (n : h.Ns1 dx mA) : ∃ od, h.get? dx = some od ∧ ∀ name, PySem.W.lookIn name od = some (mA name) := by
  obtain ⟨o, es, ep, ho, hd, hk, _, hm⟩ := n
  refine ⟨o, ho, fun name => ?_⟩
  have e := hm name
  unfold nsFind findBy at e
  rw [← Array.find?_toList] at e
  unfold PySem.W.lookIn
  rw [hd]
  dsimp only
  split
  · rename_i y q
    rw [q] at e
    exact congrArg some e
  · rename_i q
    rw [q] at e
    have a : es.toList.any (·.refKey) = false := by
      rw [List.any_eq_false]
      intro y hy
      obtain ⟨z, t, hkey⟩ := hk y (Array.mem_toList_iff.mp hy)
      simp [DictEntry.refKey, hkey]
    have a' : ¬ es.toList.any (·.refKey) = true := by rw [a]; exact Bool.false_ne_true
    rw [if_neg a']
    exact congrArg some e
theorem ObjM.look {h : Heap} {x dx C : Addr} {mA : Str → Option Value} (I : ObjM h x dx C mA) : ∃ od, PySem.W.InstAt h x (PySem.W.instObj C dx) C (some od) ∧ ∀ name, PySem.W.lookIn name od = some (mA name) :=
  let ⟨od, ho, hl⟩ := QK I.ns
  ⟨od, ⟨I.obj, rfl, rfl, ho⟩, hl⟩
section
variable {prog : Program} {w : World} {A : Around} {E : Value → Shared → Prop} {s : Shared} {K : PySem.W.Frag} {x dx C f : Addr} {mA : Str → Option Value} {name : Str} {v : Value}
theorem zaN {expr : Bool} {Q : Value → Shared → Prop} (X : K.In s.heap) (I : ObjM s.heap x dx C mA) (hg : PySem.W.plainGet K C name = true) (hh : PySem.W.hasDictIn K C = true)
    (ha : PySem.W.findIn K (.ref C) name = some none) (hv : mA name = some v) (hv' : PySem.W.handedIn v = true) (h : Q v { s with toks := s.toks + 1 }) :
    wpAny (model prog w) A (getAttr (.ref x) name expr) Q E s := by
  obtain ⟨od, J, hl⟩ := I.look
  exact PySem.W.get_value X J (PySem.W.plainGet_of hg).1 (PySem.W.findObj_own hh ha rfl (by rw [hl, hv])) hv' h
theorem JG {pl : Sem Bool} {Q : Value × List Value → Shared → Prop} (X : K.In s.heap) (I : ObjM s.heap x dx C mA) (hg : PySem.W.plainGet K C name = true)
    (hf : PySem.W.findIn K (.ref C) name = some (some (.ref f))) (ht : PySem.W.isFn K (.ref f) = true) (hv : mA name = none) (h : Q (.ref f, [.ref x]) s) :
    wpAny (model prog w) A (getMethod (.ref x) name pl) Q E s := by
  obtain ⟨od, J, hl⟩ := I.look
  exact PySem.W.method_fn X J (PySem.W.plainGet_of hg).1 (PySem.W.plainGet_of hg).2 hf (beq_iff_eq.mp ht) (by show (PySem.W.lookIn name od).map (·.isSome) = some false; rw [hl, hv]; rfl) h
theorem zaO {ns : List Str} {Q : Unit → Shared → Prop} (X : K.In s.heap) (I : ObjM s.heap x dx C mA)
    (hs : PySem.W.findIn K (.ref C) "__setattr__" = some (some (.builtin "object.__setattr__"))) (hp : PySem.W.plainOver K C = true) (ht : PySem.W.takerIn K C name = some none) (hh : PySem.W.hasDictIn K C = true)
    (hw : PySem.Within mA ns) (hsz : ns.length ≤ sizeLine)
    (h : ∀ h', ObjM h' x dx C (fun y => if y = name then some v else mA y) → Heap.SameBut dx s.heap h' → Q () { s with heap := h', toks := s.toks + 2 }) :
    wpAny (model prog w) A (setAttr (.ref x) name v) Q E s := by
  obtain ⟨od, J, hl⟩ := I.look
  refine PySem.W.set_plain X J hs (PySem.W.osa_open (s := { s with toks := s.toks + 1 }) (r := none) X J hp ht fun b => ?_)
  obtain ⟨cd, hc, hd'⟩ := PySem.W.any_some hh
  have hx : s.heap.get? x = some ⟨.ref C, some dx, .plain, #[]⟩ := I.obj
  refine wpAny_bind (wpAny_pure (wpAny_bind (wpAny_bind (wpAny_loadPart hx (wpAny_bind (PySem.W.Looks.here (s := { s with toks := s.toks + 1 }) (PySem.W.looks_clsIn X hc) ?_))))))
  rw [hd']
  refine wpAny_pure (a := some dx) (wpAny_bind (wpAny_pure (wpAny_bind ?_)))
  refine wpAny_nsSet1 (s := { s with toks := s.toks + 1 }) I.ns fun h' hn2 hs2 => ?_
  obtain ⟨oD, esD, epD, hoD, hdD, hcD⟩ := hn2.count (PySem.Within.cons name v hw)
  refine wpAny_bind (wpAny_lookBehind hoD (by rw [hdD]; exact pastItsLine_dict (Nat.le_trans hcD (by rw [List.length_cons]; omega))) ?_)
  exact wpAny_pure (h _ ⟨(hs2.2 _ (Ne.symm I.ne)).trans I.obj, hn2, I.ne⟩ hs2)
theorem JH {R : Result → Shared → Prop} {vs : List Value} {kw : List (Str × Value)} (X : K.In s.heap) (hm : PySem.W.makesIn K C = true)
    (hi : PySem.W.findIn K (.ref C) "__init__" = some (some (.ref f))) (hf : PySem.W.typeIn K (.ref f) = some (.type "function"))
    (h : codeAny (model prog w) (A.under (.builtin "type.__call__" ⟨.ref C :: vs, kw⟩)) (.call (.ref f) ⟨.ref (s.heap.objs.size + 1) :: vs, kw⟩) (PySem.W.InitBack (s.heap.objs.size + 1) R)
      { s with heap := (s.heap.push PySem.W.emptyDict).push (PySem.W.instObj C s.heap.objs.size) }) :
    codeAny (model prog w) A (.call (.ref C) ⟨vs, kw⟩) R s := by
  obtain ⟨hh, g, d, t, os⟩ := s
  exact PySem.W.make_core (PySem.W.makes_of X hm) (PySem.W.looks_findIn X hi) (fun self => PySem.W.bind_fn X self hf) (.inl rfl) h
end
noncomputable def xY (f : Str) (v : V) : List (Str × V) → List (Str × V)
  | [] => [(f, v)]
  | (g, x) :: r => if g = f then (g, v) :: r else (g, x) :: xY f v r
theorem kB (f g : Str) (v : V) : ∀ fs : List (Str × V), (xY f v fs).lookup g = if g = f then some v else fs.lookup g
  | [] => by
    show List.lookup g [(f, v)] = _
    by_cases h : g = f
    · have hb : (g == f) = true := beq_iff_eq.mpr h
      simp only [List.lookup, hb, if_pos h]
    · have hb : (g == f) = false := beq_eq_false_iff_ne.mpr h
      simp only [List.lookup, hb, if_neg h]
  | (k, x) :: r => by
    have ih := kB f g v r
    rw [show xY f v ((k, x) :: r) = (if k = f then (k, v) :: r else (k, x) :: xY f v r) from rfl]
    by_cases hk : k = f
    · rw [if_pos hk]
      by_cases h : g = k
      · have hb : (g == k) = true := beq_iff_eq.mpr h
        simp only [List.lookup, hb, if_pos (h.trans hk)]
      · have hb : (g == k) = false := beq_eq_false_iff_ne.mpr h
        simp only [List.lookup, hb, if_neg (fun e : g = f => h (e.trans hk.symm))]
    · rw [if_neg hk]
      by_cases h : g = k
      · have hb : (g == k) = true := beq_iff_eq.mpr h
        simp only [List.lookup, hb, if_neg (fun e : g = f => hk (h.symm.trans e))]
      · have hb : (g == k) = false := beq_eq_false_iff_ne.mpr h
        simp only [List.lookup, hb]
        exact ih
theorem jy (f : Str) (v : V) : ∀ fs : List (Str × V), f ∈ (xY f v fs).map (·.1) ∧ ∀ g, g ∈ fs.map (·.1) → g ∈ (xY f v fs).map (·.1)
  | [] => ⟨by simp [xY], fun g h => by simp at h⟩
  | (k, x) :: r => by
    obtain ⟨i1, i2⟩ := jy f v r
    rw [show xY f v ((k, x) :: r) = (if k = f then (k, v) :: r else (k, x) :: xY f v r) from rfl]
    by_cases hk : k = f
    · rw [if_pos hk]
      subst hk
      exact ⟨by simp, fun g h => by simpa using h⟩
    · rw [if_neg hk]
      refine ⟨?_, fun g h => ?_⟩
      · rw [List.map_cons]
        exact List.mem_cons_of_mem _ i1
      · rw [List.map_cons] at h ⊢
        rcases List.mem_cons.mp h with e | e
        · exact List.mem_cons.mpr (.inl e)
        · exact List.mem_cons_of_mem _ (i2 g e)
theorem kC (f : Str) (v : V) : ∀ fs : List (Str × V), (xY f v fs).length ≤ fs.length + 1
  | [] => by simp [xY]
  | (k, x) :: r => by
    have ih := kC f v r
    rw [show xY f v ((k, x) :: r) = (if k = f then (k, v) :: r else (k, x) :: xY f v r) from rfl]
    by_cases hk : k = f
    · rw [if_pos hk, List.length_cons, List.length_cons]; omega
    · rw [if_neg hk, List.length_cons, List.length_cons]; omega
theorem xX.some_of {v : V} {o : Option Value} (r : xX (some v) o) : ∃ u, o = some u ∧ RelV v u := by
  cases o with
  | none => exact (show False from r).elim
  | some u => exact ⟨u, rfl, r⟩
theorem xX.none_of {o : Option Value} (r : xX none o) : o = none := by
  cases o with
  | none => rfl
  | some u => exact (show False from r).elim
theorem QL {v : V} {u : Value} (r : RelV v u) : PySem.W.handedIn u = true := by
  cases v with
  | non => cases (show u = Value.none from r); rfl
  | bl b => cases (show u = Value.bool b from r); rfl
  | int i => obtain ⟨t, e⟩ := (show ∃ t, u = Value.int i t from r); cases e; rfl
  | str x => obtain ⟨t, e⟩ := (show ∃ t, u = Value.str x t from r); cases e; rfl
  | byt b => obtain ⟨t, e⟩ := (show ∃ t, u = Value.bytes b t from r); cases e; rfl
  | flt b => obtain ⟨t, e⟩ := (show ∃ t, u = Value.float b t from r); cases e; rfl
  | ref a => cases (show u = Value.ref a from r); rfl
  | ty n => cases (show u = Value.type n from r); rfl
section
variable {P : Program} {w : World} {H H' : Hp} {h h' : Heap} {a C dx : Addr} {fs fs' : List (Str × V)}
theorem kb (hok : HOk P w H h) (e : H a = some (.ins C dx fs)) : ∃ mA, ObjM h a dx C mA ∧ (∀ f, xX (fs.lookup f) (mA f)) ∧ PySem.Within mA (fs.map (·.1)) ∧ fs.length ≤ 1000 ∧ H dx = some (.own a) := by
  obtain ⟨d, z, ne, ob, mA, n, r, q⟩ := (show xc P w H h a (.ins C dx fs) from hok a _ e)
  exact ⟨mA, ⟨ob, n, ne⟩, r, q, z, d⟩
end
structure Cls (K : PySem.W.Frag) (C : Addr) : Prop where
  pg : PySem.W.plainGet K C Str.empty = true
  hd : PySem.W.hasDictIn K C = true
  po : PySem.W.plainOver K C = true
  sa : PySem.W.findIn K (.ref C) "__setattr__" = some (some (.builtin "object.__setattr__"))
theorem Cls.get {K : PySem.W.Frag} {C : Addr} (c : Cls K C) (f : Str) : PySem.W.plainGet K C f = true := c.pg
noncomputable def NoAttr (K : PySem.W.Frag) (C : Addr) (f : Str) : Prop := PySem.W.findIn K (.ref C) f = some none
theorem NoAttr.taker {K : PySem.W.Frag} {C : Addr} {f : Str} (n : NoAttr K C f) : PySem.W.takerIn K C f = some none := by
  unfold PySem.W.takerIn
  rw [show PySem.W.findIn K (.ref C) f = some none from n]
  rfl
structure Meth (K : PySem.W.Frag) (C : Addr) (m : Str) (f : Addr) : Prop where
  at_ : PySem.W.findIn K (.ref C) m = some (some (.ref f))
  fn : PySem.W.isFn K (.ref f) = true
  kp : PySem.W.keepIn K (.ref f) = true
section
variable {X : Cx} {pins : List (Addr × Obj)} {σ : St} {H : Hp} {s : Shared} {a C dx : Addr} {fs : List (Str × V)} {f : Str} {v : V} {A : Around} {E : Value → Shared → Prop}
theorem Ut {b : Bool} {Q : Value → Shared → Prop} (I : Inv X pins σ H s) (e : H a = some (.ins C dx fs)) (c : Cls X.K C) (n : NoAttr X.K C f) (l : fs.lookup f = some v)
    (h : ∀ u s', Inv X pins σ H s' → RelV v u → Q u s') : wpAny (model X.prog X.w) A (getAttr (.ref a) f b) Q E s := by
  obtain ⟨mA, O, r, _, _, _⟩ := kb I.hok e
  obtain ⟨u, hu, ru⟩ := xX.some_of (v := v) (o := mA f) (by rw [← l]; exact r f)
  exact zaN I.kIn O (c.get f) c.hd n hu (QL ru) (h u _ (I.tok _) ru)
theorem Uu {m : Str} {g : Addr} {pl : Sem Bool} {Q : Value × List Value → Shared → Prop} (I : Inv X pins σ H s) (e : H a = some (.ins C dx fs)) (c : Cls X.K C) (k : Meth X.K C m g) (l : fs.lookup m = none)
    (h : Q (.ref g, [.ref a]) s) : wpAny (model X.prog X.w) A (getMethod (.ref a) m pl) Q E s := by
  obtain ⟨mA, O, r, _, _, _⟩ := kb I.hok e
  have hn : mA m = none := xX.none_of (by rw [← l]; exact r m)
  exact JG I.kIn O (c.get m) k.at_ k.fn hn h
theorem Uv {y : V} {u : Value} {Q : Unit → Shared → Prop} (I : Inv X pins σ H s) (e : H a = some (.ins C dx fs)) (c : Cls X.K C) (n : NoAttr X.K C f) (hl : fs.length < 1000) (ry : RelV y u)
    (h : ∀ s', Inv X pins σ (upd H a (.ins C dx (xY f y fs))) s' → Q () s') : wpAny (model X.prog X.w) A (setAttr (.ref a) f u) Q E s := by
  obtain ⟨mA, O, r, wi, _, ho⟩ := kb I.hok e
  have hz : (fs.map (·.1)).length ≤ sizeLine := by rw [List.length_map, sizeLine_eq]; omega
  refine zaO I.kIn O c.sa c.po n.taker c.hd wi hz fun h' O' sb => h _ ?_
  have hd : ∃ o, h'.get? dx = some o := let ⟨o, _, _, e', _⟩ := O'.ns; ⟨o, e'⟩
  refine I.write (x := a) (e := dx) (by rw [e]; exact True.intro) (.inr ho) (fun b q hb z => (sb.2 b hb).trans z) hd ?_
  refine ⟨by rw [zm O.ne]; exact ho, ?_, O.ne, O'.obj, _, O'.ns, fun g => ?_, fun g hg => ?_⟩
  · have := kC f y fs; omega
  · show xX ((xY f y fs).lookup g) (if g = f then some u else mA g)
    rw [kB]
    by_cases q : g = f
    · rw [if_pos q, if_pos q]; exact ry
    · rw [if_neg q, if_neg q]; exact r g
  · by_cases q : g = f
    · rw [q]; exact (jy f y fs).1
    · refine (jy f y fs).2 g (wi g fun z => hg ?_)
      show (if g = f then some u else mA g) = none
      rw [if_neg q]; exact z
theorem Inv.made (I : Inv X pins σ H s) : Inv X pins σ (upd (upd H s.heap.objs.size (.own (s.heap.objs.size + 1))) (s.heap.objs.size + 1) (.ins C s.heap.objs.size []))
    { s with heap := (s.heap.push PySem.W.emptyDict).push (PySem.W.instObj C s.heap.objs.size) } := by
  have e1 : (s.heap.push PySem.W.emptyDict).get? s.heap.objs.size = some PySem.W.emptyDict := Heap.get?_push_size s.heap rfl
  have e2 : ((s.heap.push PySem.W.emptyDict).push (PySem.W.instObj C s.heap.objs.size)).get? (s.heap.objs.size + 1) = some (PySem.W.instObj C s.heap.objs.size) := by
    have := Heap.get?_push_size (s.heap.push PySem.W.emptyDict) (o := PySem.W.instObj C s.heap.objs.size) rfl
    rwa [Heap.size_push] at this
  have e3 : (s.heap.push PySem.W.emptyDict).Ns s.heap.objs.size (fun _ => none) := ⟨PySem.W.emptyDict, #[], _, e1, rfl, (fun e he => absurd he (by simp)), fun _ => rfl⟩
  have I1 := I.laid (a := s.heap.objs.size) (o := .own (s.heap.objs.size + 1)) (h' := s.heap.push PySem.W.emptyDict) (t' := s.toks) (fun b u q => Heap.get?_push_of_some _ q) (Nat.le_refl _) ⟨_, e1⟩
  refine I1.laid (a := s.heap.objs.size + 1) (o := .ins C s.heap.objs.size []) (t' := s.toks) (fun b u q => Heap.get?_push_of_some _ q) (Nat.le_of_eq (Heap.size_push _ _)) ?_
  have ne : s.heap.objs.size ≠ s.heap.objs.size + 1 := Nat.ne_of_lt (Nat.lt_succ_self _)
  refine ⟨by rw [zm ne, zX], Nat.zero_le _, ne, e2, fun _ => none, (Heap.Ns1.of_empty e3).at fun o q => Heap.get?_push_of_some _ q, fun _ => True.intro, fun y hy => absurd rfl hy⟩
theorem zaP {prog : Program} {w : World} {env : Env} {e : Expr} {f : Str} {pos : Pos} {s : Shared} {Q : Value → Shared → Prop} (hb : attributeBase e f env (eval e env) = eval e env)
    (h : wpAny (model prog w) A (eval e env) (fun o s₁ => wpAny (model prog w) A (getAttr o f true) Q E s₁) E s) : wpAny (model prog w) A (eval (.Attribute e f pos) env) Q E s :=
  Attribute_any_ h (by rw [arm_eval_Attribute, hb])
end
noncomputable def JI (K : PySem.W.Frag) (ta : TE) (f : Str) : TE := fun σ H Q => ta σ H fun x H1 => ∃ a C dx fs v, x = .ref a ∧ H1 a = some (.ins C dx fs) ∧ Cls K C ∧ NoAttr K C f ∧ fs.lookup f = some v ∧ Q v H1
noncomputable def JJ (K : PySem.W.Frag) (ta tv : TE) (f : Str) : TS := fun D σ H => tv σ H fun y H1 => ta σ H1 fun x H2 => ∃ a C dx fs, x = .ref a ∧ H2 a = some (.ins C dx fs) ∧ Cls K C ∧ NoAttr K C f ∧ fs.length < 1000 ∧
  D.nx σ (upd H2 a (.ins C dx (xY f y fs)))
section
variable {X : Cx} {o e value : Expr} {f : Str} {pos pos' tpos : Pos} {ta tv : TE}
theorem zca (he : PE X e ta) (hb : attributeBase e f X.env (eval e X.env) = eval e X.env) : PE X (.Attribute e f pos) (JI X.K ta f) := by
  intro pins s σ H Q I h
  refine zaP hb (thn (he pins s σ H _ I h) fun u s1 ⟨x, H1, I1, rx, a, C, dx, fs, v, ex, ea, c, n, l, q⟩ => ?_)
  subst ex
  obtain rfl : u = Value.ref a := rx
  exact Ut I1 ea c n l fun u' s2 I2 ru => ⟨v, H1, I2, ru, q⟩
theorem zcb (ha : PE X o ta) (hv : PE X value tv) (hs : swapsWith value (some (.Attribute o f pos')) pos.line X.env = pure false) : PS X (.Assign [.Attribute o f pos'] value pos) (JJ X.K ta tv f) := by
  intro pins s σ H D I h
  refine plainObj_wpAny_Assign_Attribute (thn (hv pins s σ H _ I h) fun u s1 ⟨y, H1, I1, ry, q⟩ => thn (ha pins s1 σ H1 _ I1 q) fun ov s2 ⟨x, H2, I2, rx, a, C, dx, fs, ex, ea, c, n, l, q2⟩ => ?_) hs
  subst ex
  obtain rfl : ov = Value.ref a := rx
  exact Uv I2 ea c n l ry fun s3 I3 => ⟨σ, _, I3, q2⟩
end
section
variable {X : Cx} {pins : List (Addr × Obj)} {σ : St} {H : Hp} {s : Shared} {A : Around} {E : Value → Shared → Prop} {Q : Value → Shared → Prop} {c : Value} {b : Bool}
inductive TyOf (K : PySem.W.Frag) (H : Hp) : V → Value → Prop where
  | non : TyOf K H .non (.type "NoneType")
  | bl (x : Bool) : TyOf K H (.bl x) (.type "bool")
  | int (i : Int) : TyOf K H (.int i) (.type "int")
  | str (x : Str) : TyOf K H (.str x) (.type "str")
  | flt (x : UInt64) : TyOf K H (.flt x) (.type "float")
  | lst {a : Addr} {xs : List V} (e : H a = some (.lst xs)) : TyOf K H (.ref a) (.type "list")
  | frz {a : Addr} {o : Obj} {xs : List V} (e : H a = some (.frz o (.lst xs))) : TyOf K H (.ref a) (.type "list")
  | tup {a : Addr} {xs : List V} (e : H a = some (.tup xs)) : TyOf K H (.ref a) (.type "tuple")
  | dK {a : Addr} {kvs : List (Key × V)} (e : H a = some (.dK kvs)) : TyOf K H (.ref a) (.type "dict")
  | dT {a : Addr} {kvs : List (List Key × V)} (e : H a = some (.dT kvs)) : TyOf K H (.ref a) (.type "dict")
  | ins {a C dx : Addr} {fs : List (Str × V)} (e : H a = some (.ins C dx fs)) (cl : Cls K C) (ha : PySem.W.findIn K (.ref C) "__class__" = some (some (.builtin "object.__class__")))
      (hn : PySem.W.specialIn K (.builtin "object.__class__") "__get__" = some (some (.builtin "getset_descriptor.__get__"))) (htk : PySem.W.takesIn K (.builtin "object.__class__") = some true)
      (hm : PySem.W.mroIn K C (.type "object") = some true) : TyOf K H (.ref a) (.ref C)
theorem QM {x : V} {u t : Value} (I : Inv X pins σ H s) (rx : RelV x u) (ty : TyOf X.K H x t) (e : PySem.W.kitOne X.K t c = some b) (h : ∀ tk, Q (.bool b) { s with toks := tk }) :
    wpAny (model X.prog X.w) A (call (.builtin "isinstance") [u, c]) Q E s := by
  cases ty with
  | non => cases (show u = Value.none from rx); exact PySem.W.kia_one PySem.W.kitx_none I.kIn True.intro e (fun z => nomatch z) h
  | bl y => cases (show u = Value.bool y from rx); exact PySem.W.kia_one PySem.W.kitx_bool I.kIn True.intro e (fun z => nomatch z) h
  | int i => obtain ⟨t, q⟩ := (show ∃ t, u = Value.int i t from rx); cases q; exact PySem.W.kia_one PySem.W.kitx_int I.kIn True.intro e (fun z => nomatch z) h
  | str y => obtain ⟨t, q⟩ := (show ∃ t, u = Value.str y t from rx); cases q; exact PySem.W.kia_one PySem.W.kitx_str I.kIn True.intro e (fun z => nomatch z) h
  | flt y => obtain ⟨t, q⟩ := (show ∃ t, u = Value.float y t from rx); cases q; exact PySem.W.kia_one PySem.W.kitx_float I.kIn True.intro e (fun z => nomatch z) h
  | @lst a xs ea =>
    cases (show u = Value.ref a from rx)
    obtain ⟨_, _, n, _, h1⟩ := (show xc X.prog X.w H s.heap a (.lst xs) from I.hok a _ ea)
    exact PySem.W.kia_one PySem.W.kitx_list I.kIn ⟨_, h1, rfl⟩ e (fun z => nomatch z) h
  | @frz a ob xs ea =>
    cases (show u = Value.ref a from rx)
    obtain ⟨_, _, _, n, _, h1⟩ := (show xc X.prog X.w H s.heap a (.frz ob (.lst xs)) from I.hok a _ ea)
    exact PySem.W.kia_one PySem.W.kitx_list I.kIn ⟨_, h1, rfl⟩ e (fun z => nomatch z) h
  | @tup a xs ea =>
    cases (show u = Value.ref a from rx)
    obtain ⟨_, _, _, p⟩ := (show xc X.prog X.w H s.heap a (.tup xs) from I.hok a _ ea)
    obtain ⟨o, h1, h2, _⟩ := p
    exact PySem.W.kia_one PySem.W.kitx_tuple I.kIn ⟨o, h1, h2⟩ e (fun z => nomatch z) h
  | @dK a kvs ea =>
    cases (show u = Value.ref a from rx)
    obtain ⟨_, _, vs, _, p⟩ := (show xc X.prog X.w H s.heap a (.dK kvs) from I.hok a _ ea)
    obtain ⟨o, es, ep, h1, h2, _⟩ := p
    exact PySem.W.kia_one PySem.W.kitx_dict I.kIn ⟨o, h1, h2.1⟩ e (fun z => nomatch z) h
  | @dT a kvs ea =>
    cases (show u = Value.ref a from rx)
    obtain ⟨_, _, xs, _, o, es, ep, h1, h2, _⟩ := (show xc X.prog X.w H s.heap a (.dT kvs) from I.hok a _ ea)
    exact PySem.W.kia_one PySem.W.kitx_dict I.kIn ⟨o, h1, h2.1⟩ e (fun z => nomatch z) h
  | @ins a C dx fs ea cl ha hn htk hm =>
    cases (show u = Value.ref a from rx)
    obtain ⟨mA, O, _⟩ := kb I.hok ea
    obtain ⟨od, J, _⟩ := O.look
    exact PySem.W.kia_one (PySem.W.kitx_own (cl.get _) cl.hd ha hn htk hm) I.kIn J e (fun z => nomatch z) h
end
end L2
namespace L2
open PySem PySem.Spec PyProof.Rows
structure Room (k : Nat) (A : Around) : Prop where
  hd : A.handled = none
  dp : A.depth + 3 * k + 5 < recursionLimit
  un : A.units + 16 * k + 200 < cLine
  gd : A.guards = some []
theorem Room.mono {j k : Nat} {A : Around} (r : Room k A) (h : j ≤ k) : Room j A := ⟨r.hd, by have := r.dp; omega, by have := r.un; omega, r.gd⟩
theorem Room.deeper {k : Nat} {A : Around} (r : Room (k + 1) A) (env : Env) : Room k (A.deeper env) :=
  ⟨r.hd, by have := r.dp; show A.depth + 1 + 3 * k + 5 < _; omega, by have := r.un; show A.units + 3 + 16 * k + 200 < _; omega, r.gd⟩
theorem Room.in1 {k : Nat} {A : Around} (r : Room (k + 1) A) : Room k A.in1 :=
  ⟨r.hd, by have := r.dp; show A.depth + 3 * k + 5 < _; omega, by have := r.un; show A.units + 1 + 16 * k + 200 < _; omega, r.gd⟩
theorem Uw {A : Around} {C : Addr} {us : List Value} {kw : List (Str × Value)} : (A.under (.builtin "type.__call__" ⟨.ref C :: us, kw⟩)).depth = A.depth + 1 := by
  first | rfl | simp [Around.under, Code.weight, Code.isCreation, Code.isGuard, Code.isCaller, Code.frames, Code.isFrame, guardIds]
theorem Ux {A : Around} {C : Addr} {us : List Value} {kw : List (Str × Value)} : (A.under (.builtin "type.__call__" ⟨.ref C :: us, kw⟩)).units = A.units + 1 := by
  first | rfl | simp [Around.under, Code.cUnits, Code.frames, Code.isFrame]
theorem Vr {A : Around} {C : Addr} {us : List Value} {kw : List (Str × Value)} : (A.under (.builtin "type.__call__" ⟨.ref C :: us, kw⟩)).guards = A.guards := by
  first | rfl | simp [Around.under, Code.guards, Code.isGuard, guardIds, pushGuards]
theorem Room.make {k : Nat} {A : Around} (r : Room (k + 1) A) (C : Addr) (us : List Value) (kw : List (Str × Value)) : Room k (A.under (.builtin "type.__call__" ⟨.ref C :: us, kw⟩)) :=
  ⟨r.hd, by have := r.dp; rw [Uw]; omega, by have := r.un; rw [Ux]; omega, by rw [Vr]; exact r.gd⟩
theorem Room.depth {k : Nat} {A : Around} (r : Room k A) : A.depth < recursionLimit := by have := r.dp; omega
theorem Room.units {k : Nat} {A : Around} (r : Room k A) : A.units + 64 < cLine := by have := r.un; omega
noncomputable def jz : TA := fun _ H Q => Q [] H
noncomputable def kd (ta : TE) (tr : TA) : TA := fun σ H Q => ta σ H fun x H1 => tr σ H1 fun xs H2 => Q (x :: xs) H2
section
variable {X : Cx} {e : Expr} {es : List Expr} {te : TE} {t : TA} {pos : Pos}
theorem zcc : PA X [] jz := fun _ _ _ _ H Q I h => Calls.spliced_nil ⟨[], H, I, .nil, h⟩
theorem zaQ (ha : PE X e te) (hr : PA X es t) (hs : starEach (e :: es) X.env = (false, eval e X.env) :: starEach es X.env := by rfl) : PA X (e :: es) (kd te t) := by
  intro pos pins s σ H Q I h
  rw [hs]
  show wpAny _ _ (spliced ((false, eval e X.env) :: backTo pos (starEach es X.env))) _ _ s
  refine Calls.spliced_cons (thn (ha pins s σ H _ I h) fun u s1 ⟨x, H1, I1, r1, q1⟩ => ?_)
  exact thn (hr pos pins s1 σ H1 _ I1 q1) fun us s2 ⟨xs, H2, I2, r2, q2⟩ => ⟨x :: xs, H2, I2, .cons r1 r2, q2⟩
noncomputable def JK (t : TA) : TE := fun σ H Q => t σ H fun xs H1 => xs.length ≤ sizeLine ∧ ∀ p, H1 p = none → Q (.ref p) (upd H1 p (.tup xs))
noncomputable def Z1 (t : TA) : TE := fun σ H Q => t σ H fun xs H1 => xs.length ≤ sizeLine ∧ ∀ p, H1 p = none → Q (.ref p) (upd H1 p (.lst xs))
theorem zcd {x1} (h : PA X es t) : PE X (.Tuple es x1 pos) (JK t) := by
  intro pins s σ H Q I hq
  refine wpAny_Tuple_spliced (thn (h pos pins s σ H _ I hq) fun us s1 ⟨xs, H1, I1, r, z, q⟩ => ⟨by rw [← r.length]; exact z, ?_⟩)
  have hf : H1 s1.heap.objs.size = none := I1.hok.fresh (Nat.le_refl _)
  refine ⟨.ref s1.heap.objs.size, upd H1 s1.heap.objs.size (.tup xs), I1.laid (t' := s1.toks) (fun b u e => Heap.get?_push_of_some _ e) (Nat.le_refl _) ?_, rfl, q _ hf⟩
  exact ⟨z, us, r, ⟨_, Heap.get?_push_size _ rfl, rfl, _, rfl⟩⟩
theorem Xb (h : PA X es t) : PE X (.List es pos) (Z1 t) := by
  intro pins s σ H Q I hq
  refine wpAny_List_spliced (thn (h pos pins s σ H _ I hq) fun us s1 ⟨xs, H1, I1, r, z, q⟩ => ⟨by rw [← r.length]; exact z, ?_⟩)
  have hf : H1 s1.heap.objs.size = none := I1.hok.fresh (Nat.le_refl _)
  refine ⟨.ref s1.heap.objs.size, upd H1 s1.heap.objs.size (.lst xs), I1.laid (t' := s1.toks) (fun b u e => Heap.get?_push_of_some _ e) (Nat.le_refl _) ?_, rfl, q _ hf⟩
  exact ⟨z, us, 0, r, Heap.get?_push_size _ rfl⟩
end
noncomputable abbrev Sp := List V → Hp → VK → XK → Prop
noncomputable abbrev CXT := List Env → Hp → Shared → XK → Value → Shared → Prop
structure Env0 (P : Program) (w : World) (K : PySem.W.Frag) (mg : Str → Option Value) (base : Heap) (A : Around) (outer : List Env) (s : Shared) (H : Hp) : Prop where
  frames : A.frames = some outer
  mod : Mod K mg base
  bs : ∀ b o, base.get? b = some o → s.heap.get? b = some o ∧ H b = none
  bsz : base.objs.size ≤ s.heap.objs.size
  funs : s.heap.FunFrames base outer
  frf : ∀ b ∈ frs outer, H b = none
  hok : HOk P w H s.heap
  bare : AllBare s.gens
noncomputable def CE (outer : List Env) (P : Program) (w : World) (H : Hp) (s : Shared) (Q : VK) (u : Value) (s' : Shared) : Prop :=
  ∃ v H', s'.os = s.os ∧ AllBare s'.gens ∧ Un (frs outer) [] H H' s.heap s'.heap ∧ HOk P w H' s'.heap ∧ RelV v u ∧ Q v H'
noncomputable def CR (CX : CXT) (outer : List Env) (P : Program) (w : World) (H : Hp) (s : Shared) (Q : VK) (E : XK) (r : Result) (s' : Shared) : Prop :=
  match r with
  | .ok (.ret u) => CE outer P w H s Q u s'
  | .ok _ => False
  | .error e => CX outer H s E e s'
structure FnOk (P : Program) (w : World) (K : PySem.W.Frag) (mg : Str → Option Value) (base : Heap) (CX : CXT) (k : Nat) (f : Addr) (fd : FuncData) (ps : List Str) (sp : Sp) : Prop where
  len : ∀ vs H Q E, sp vs H Q E → vs.length = ps.length
  run : ∀ (A : Around) (outer : List Env) (s : Shared) (H : Hp) (args : Args) (us : List Value) (vs : List V) (Q : VK) (E : XK), Room k A → Env0 P w K mg base A outer s H → BindsTo s fd args (ps.zip us) → Vals vs us → sp vs H Q E →
    codeAny (model P w) A (.call (.ref f) args) (CR CX outer P w H s Q E) s
theorem FnOk.mono {P : Program} {w : World} {K : PySem.W.Frag} {mg : Str → Option Value} {base : Heap} {CX : CXT} {j k : Nat} {f : Addr} {fd : FuncData} {ps : List Str} {sp : Sp} (F : FnOk P w K mg base CX j f fd ps sp) (h : j ≤ k) :
    FnOk P w K mg base CX k f fd ps sp := ⟨F.len, fun A outer s H args us vs Q E hr => F.run A outer s H args us vs Q E (hr.mono h)⟩
theorem FnOk.imp {P : Program} {w : World} {K : PySem.W.Frag} {mg : Str → Option Value} {base : Heap} {CX : CXT} {k : Nat} {f : Addr} {fd : FuncData} {ps : List Str} {sp sp' : Sp} (F : FnOk P w K mg base CX k f fd ps sp)
    (h : ∀ vs H Q E, sp' vs H Q E → sp vs H Q E) : FnOk P w K mg base CX k f fd ps sp' :=
  ⟨fun vs H Q E q => F.len vs H Q E (h _ _ _ _ q), fun A outer s H args us vs Q E hr he hb hv hs => F.run A outer s H args us vs Q E hr he hb hv (h _ _ _ _ hs)⟩
theorem Env0.make {P : Program} {w : World} {K : PySem.W.Frag} {mg : Str → Option Value} {base : Heap} {A : Around} {outer : List Env} {s : Shared} {H : Hp} (e : Env0 P w K mg base A outer s H) (C : Addr) (us : List Value) (kw : List (Str × Value)) :
    Env0 P w K mg base (A.under (.builtin "type.__call__" ⟨.ref C :: us, kw⟩)) outer s H := ⟨by first | exact e.frames | (simpa [Around.under, Code.envs, Code.isFrame, pushEnvs] using e.frames), e.mod, e.bs, e.bsz, e.funs, e.frf, e.hok, e.bare⟩
theorem Env0.in1 {P : Program} {w : World} {K : PySem.W.Frag} {mg : Str → Option Value} {base : Heap} {A : Around} {outer : List Env} {s : Shared} {H : Hp} (e : Env0 P w K mg base A outer s H) :
    Env0 P w K mg base A.in1 outer s H := ⟨e.frames, e.mod, e.bs, e.bsz, e.funs, e.frf, e.hok, e.bare⟩
section
variable {X : Cx} {pins : List (Addr × Obj)} {σ : St} {H : Hp} {s s' : Shared}
theorem Inv.env0 (I : Inv X pins σ H s) : Env0 X.prog X.w X.K X.mg X.base X.A X.stack s H :=
  ⟨I.ok.frames, I.ok.mod, I.bs, Nat.le_trans I.ok.bsz I.sz, I.stack, I.stkFree, I.hok, I.bare⟩
theorem Inv.after {Q : VK} {u : Value} (I : Inv X pins σ H s) (h : CE X.stack X.prog X.w H s Q u s') : EP X pins σ Q u s' := by
  obtain ⟨v, H', os, bare, un, hok, r, q⟩ := h
  obtain ⟨hh, g, d, t, os'⟩ := s'
  obtain rfl : os' = s.os := os
  exact ⟨v, H', I.call (h' := hh) (g' := g) (d' := d) (t' := t) (ch := []) un hok bare (fun b z => absurd z (by simp)), r, q⟩
end
noncomputable def Ze (sp : Sp) (dvs : List V) (E : XK) (t : TA) : TE := fun σ H Q => t σ H fun vs H1 => sp (vs ++ dvs) H1 Q E
noncomputable def Uy (C : Addr) (m : Str) (sp : Sp) (dvs : List V) (E : XK) (ta : TE) (t : TA) : TE := fun σ H Q => ta σ H fun x H1 => ∃ a dx fs, x = .ref a ∧ H1 a = some (.ins C dx fs) ∧ fs.lookup m = none ∧
  t σ H1 fun vs H2 => sp (x :: (vs ++ dvs)) H2 Q E
noncomputable def Uz (C : Addr) (sp : Sp) (dvs : List V) (E : XK) (t : TA) : TE := fun σ H Q => t σ H fun vs H1 => ∀ x dx, H1 x = none → H1 dx = none → dx ≠ x →
  sp (.ref x :: (vs ++ dvs)) (upd (upd H1 dx (.own x)) x (.ins C dx [])) (fun v H2 => v = .non ∧ Q (.ref x) H2) E
noncomputable def Binds (K : PySem.W.Frag) (fd : FuncData) (ps : List Str) (ds : List Value) : Prop :=
  ∀ (s : Shared) (us : List Value), K.In s.heap → (us ++ ds).length = ps.length → BindsTo s fd ⟨us, []⟩ (ps.zip (us ++ ds))
theorem Binds.all {K : PySem.W.Frag} {fd : FuncData} {ps : List Str} (h : ∀ us : List Value, us.length = ps.length → bindArgs fd ⟨us, []⟩ = pure (ps.zip us)) : Binds K fd ps [] := fun s us _ hl => by
  rw [List.append_nil] at hl ⊢
  exact .of_eq (h us hl)
noncomputable def uE (CX : CXT) (X : Cx) (E : XK) : Prop := ∀ (pins : List (Addr × Obj)) (σ : St) (H : Hp) (s : Shared) (e : Value) (s' : Shared), Inv X pins σ H s → CX X.stack H s E e s' → X.xe e s'
section
variable {X : Cx} {CX : CXT} {k : Nat} {f C : Addr} {fd : FuncData} {ps : List Str} {sp : Sp} {dvs : List V} {ds : List Value} {E : XK} {x m : Str} {p pos apos : Pos} {e o : Expr} {es : List Expr} {ta : TE} {t : TA}
theorem QN {pins : List (Addr × Obj)} {σ : St} {H : Hp} {s : Shared} {Q : VK} {us : List Value} {vs : List V} (F : FnOk X.prog X.w X.K X.mg X.base CX k f fd ps sp) (hr : Room k X.A) (hb : Binds X.K fd ps ds) (hd : Vals dvs ds) (hx : uE CX X E)
    (I : Inv X pins σ H s) (r : Vals vs us) (h : sp (vs ++ dvs) H Q E) : wpAny (model X.prog X.w) X.A (call (.ref f) us) (EP X pins σ Q) X.xe s := by
  have r2 : Vals (vs ++ dvs) (us ++ ds) := r.append hd
  have hl : (us ++ ds).length = ps.length := by rw [← r2.length]; exact F.len _ _ _ _ h
  refine wpAny_call (codeAny_mono (F.run X.A X.stack s H ⟨us, []⟩ (us ++ ds) (vs ++ dvs) Q E hr I.env0 (hb s us I.kIn hl) r2 h) fun r s' hq => ?_)
  cases r with
  | error e => exact hx pins σ H s e s' I hq
  | ok fl =>
    cases fl with
    | ret u => exact I.after hq
    | next => exact False.elim hq
    | brk => exact False.elim hq
    | cont => exact False.elim hq
theorem zaR (F : FnOk X.prog X.w X.K X.mg X.base CX k f fd ps sp) (hr : Room k X.A) (hg : Gl X x) (hm : X.mg x = some (.ref f)) (hk : PySem.W.keepIn X.K (.ref f) = true) (hb : Binds X.K fd ps ds) (hd : Vals dvs ds) (hx : uE CX X E)
    (ha : PA X (e :: es) t) (hdb : (x == ("__debug__" : Str)) = false := by decide) (he : starEach (e :: es) X.env = (false, eval e X.env) :: starEach es X.env := by rfl) (hpl : (backTo pos (starEach es X.env)).any (·.1) = false := by rfl) :
    PE X (.Call (.Name x p) (e :: es) [] pos) (Ze sp dvs E t) := by
  intro pins s σ H Q I h
  refine wpAny_Call_Name_kw (ZX I hg hm ?_ hdb)
  refine PySem.W.callWith_K (h₀ := X.base) I.ok.mod.kin hk (thn (ha pos pins s σ H _ I h) fun us s1 ⟨vs, H1, I1, r, q⟩ => ⟨I1.kIn, ?_⟩) he hpl
  exact QN F hr hb hd hx I1 r q
theorem JL {pl : Sem Bool} (he : PE X o ta) (c : Cls X.K C) (hm : Meth X.K C m f) (F : FnOk X.prog X.w X.K X.mg X.base CX k f fd ps sp) (hr : Room k X.A) (hb : Binds X.K fd ps ds) (hd : Vals dvs ds) (hx : uE CX X E)
    (ht : eval (.Call (.Attribute o m apos) [] [] pos) X.env = (do
      let ov ← eval o X.env
      standAt apos.atName
      let (f, first) ← holding [ov] (getMethod ov m pl)
      callWith pos f first (backTo pos (starEach [] X.env)) (backToKw pos (keywordEach [] X.env))) := by rfl) :
    PE X (.Call (.Attribute o m apos) [] [] pos) (Uy C m sp dvs E ta jz) := by
  intro pins s σ H Q I h
  refine PySem.W.methodCall_KW (pl := pl) (thn (he pins s σ H _ I h) fun u s1 ⟨x, H1, I1, rx, a, dx, fs, ex, ea, l, q⟩ => ?_) ht
  subst ex
  obtain rfl : u = Value.ref a := rx
  refine Uu I1 ea c hm l ?_
  exact PySem.W.callWith_K0 (first := [.ref a]) I1.kIn hm.kp (QN (us := [.ref a]) (vs := [.ref a]) F hr hb hd hx I1 (.cons rfl .nil) q)
structure Mk (K : PySem.W.Frag) (C f : Addr) : Prop where
  makes : PySem.W.makesIn K C = true
  init : PySem.W.findIn K (.ref C) "__init__" = some (some (.ref f))
  fn : PySem.W.isFn K (.ref f) = true
  kp : PySem.W.keepIn K (.ref C) = true
theorem JM {pins : List (Addr × Obj)} {σ : St} {H : Hp} {s : Shared} {Q : VK} {us : List Value} {vs : List V} (M : Mk X.K C f) (F : FnOk X.prog X.w X.K X.mg X.base CX k f fd ps sp) (hr : Room (k + 1) X.A) (hb : Binds X.K fd ps ds) (hd : Vals dvs ds)
    (hx : uE CX X E) (I : Inv X pins σ H s) (r : Vals vs us)
    (h : ∀ x dx, H x = none → H dx = none → dx ≠ x → sp (.ref x :: (vs ++ dvs)) (upd (upd H dx (.own x)) x (.ins C dx [])) (fun v H2 => v = .non ∧ Q (.ref x) H2) E) :
    wpAny (model X.prog X.w) X.A (call (.ref C) us) (EP X pins σ Q) X.xe s := by
  have hq := h (s.heap.objs.size + 1) s.heap.objs.size (I.hok.fresh (Nat.le_succ _)) (I.hok.fresh (Nat.le_refl _)) (Nat.ne_of_lt (Nat.lt_succ_self _))
  have I2 := Inv.made (C := C) I
  have r2 : Vals (V.ref (s.heap.objs.size + 1) :: (vs ++ dvs)) (Value.ref (s.heap.objs.size + 1) :: (us ++ ds)) := .cons rfl (r.append hd)
  have hl : (Value.ref (s.heap.objs.size + 1) :: us ++ ds).length = ps.length := by
    have e := r2.length
    rw [F.len _ _ _ _ hq] at e
    exact e.symm
  refine wpAny_call (JH (f := f) I.kIn M.makes M.init (beq_iff_eq.mp M.fn) (codeAny_mono (F.run _ X.stack _ _ ⟨Value.ref (s.heap.objs.size + 1) :: us, []⟩ (Value.ref (s.heap.objs.size + 1) :: (us ++ ds)) _ _ E (hr.make C us [])
    (I2.env0.make C us []) (hb _ (Value.ref (s.heap.objs.size + 1) :: us) I2.kIn hl) r2 hq) fun r s' hq' => ?_))
  cases r with
  | error e => exact hx pins σ _ _ e s' I2 hq'
  | ok fl =>
    cases fl with
    | ret u =>
      obtain ⟨v, H', I3, rv, ev, q3⟩ := I2.after hq'
      subst ev
      exact ⟨rv, ⟨V.ref (s.heap.objs.size + 1), H', I3, rfl, q3⟩⟩
    | next => exact False.elim hq'
    | brk => exact False.elim hq'
    | cont => exact False.elim hq'
theorem zaS (M : Mk X.K C f) (F : FnOk X.prog X.w X.K X.mg X.base CX k f fd ps sp) (hr : Room (k + 1) X.A) (hg : Gl X x) (hm : X.mg x = some (.ref C)) (hb : Binds X.K fd ps ds) (hd : Vals dvs ds) (hx : uE CX X E)
    (ha : PA X (e :: es) t) (hdb : (x == ("__debug__" : Str)) = false := by decide) (he : starEach (e :: es) X.env = (false, eval e X.env) :: starEach es X.env := by rfl) (hpl : (backTo pos (starEach es X.env)).any (·.1) = false := by rfl) :
    PE X (.Call (.Name x p) (e :: es) [] pos) (Uz C sp dvs E t) := by
  intro pins s σ H Q I h
  refine wpAny_Call_Name_kw (ZX I hg hm ?_ hdb)
  refine PySem.W.callWith_K (h₀ := X.base) I.ok.mod.kin M.kp (thn (ha pos pins s σ H _ I h) fun us s1 ⟨vs, H1, I1, r, q⟩ => ⟨I1.kIn, ?_⟩) he hpl
  exact JM M F hr hb hd hx I1 r q
end
section
variable {X : Cx} {CX : CXT} {k : Nat} {f C : Addr} {fd : FuncData} {ps ks : List Str} {sp : Sp} {E : XK} {x m : Str} {p pos apos kpos : Pos} {e o : Expr} {es : List Expr} {kws : List Keyword} {te ta : TE} {t tk : TA} {nm : Option Str}
variable {g : List Value → List Value → List Value} {gV : List V → List V → List V}
end
structure FnScope (N P : List Str) (sc : Scope) : Prop where
  kind : sc.kind = .function
  co : sc.isCoroutine = false
  gen : sc.isGenerator = false
  nd : N.Nodup
  pre : N.take P.length = P
  par : ∀ x ∈ P, sc.names.lookup x = some .local ∨ sc.names.lookup x = some .cell
  nofree : ∀ y ∈ sc.names, y.2 ≠ .free
theorem Ym {kindOf : Str → Option NameKind} {x : Str} : ∀ {binds : List (Str × Value)} {m : Str → Option Value}, (∀ v, (x, v) ∉ binds) → bindL kindOf binds m x = m x
  | [], _, _ => rfl
  | (n, v) :: r, m, h => by
    unfold bindL
    rw [Ym fun w hw => h w (List.mem_cons_of_mem _ hw)]
    split
    · have : x ≠ n := by rintro rfl; exact h v List.mem_cons_self
      simp [this]
    · rfl
theorem Yn {kindOf : Str → Option NameKind} {x : Str} : ∀ {binds : List (Str × Value)} {m : Str → Option Value}, (∀ v, (x, v) ∉ binds) → bindC kindOf binds m x = m x
  | [], _, _ => rfl
  | (n, v) :: r, m, h => by
    unfold bindC
    rw [Yn fun w hw => h w (List.mem_cons_of_mem _ hw)]
    split
    · rfl
    · have : x ≠ n := by rintro rfl; exact h v List.mem_cons_self
      simp [this]
theorem Yo {kindOf : Str → Option NameKind} {x : Str} {v : Value} : ∀ {P : List Str} {vs : List Value} {i : Nat} {m : Str → Option Value}, P.Nodup → P[i]? = some x → vs[i]? = some v → kindOf x = some .local →
    bindL kindOf (P.zip vs) m x = some v
  | [], _, _, _, _, h, _, _ => by simp at h
  | _ :: _, [], _, _, _, _, h, _ => by simp at h
  | p :: P, w :: vs, 0, m, nd, h1, h2, hk => by
    simp at h1 h2; subst h1; subst h2
    show bindL kindOf ((p, w) :: P.zip vs) m p = _
    unfold bindL
    rw [Ym fun v hv => (List.nodup_cons.mp nd).1 (List.of_mem_zip hv).1, if_pos hk]
    simp
  | p :: P, w :: vs, i + 1, m, nd, h1, h2, hk => by
    show bindL kindOf ((p, w) :: P.zip vs) m x = _
    unfold bindL
    exact Yo (i := i) (List.nodup_cons.mp nd).2 (by simpa using h1) (by simpa using h2) hk
theorem Yp {kindOf : Str → Option NameKind} {x : Str} {v : Value} : ∀ {P : List Str} {vs : List Value} {i : Nat} {m : Str → Option Value}, P.Nodup → P[i]? = some x → vs[i]? = some v → kindOf x ≠ some .local →
    bindC kindOf (P.zip vs) m x = some v
  | [], _, _, _, _, h, _, _ => by simp at h
  | _ :: _, [], _, _, _, _, h, _ => by simp at h
  | p :: P, w :: vs, 0, m, nd, h1, h2, hk => by
    simp at h1 h2; subst h1; subst h2
    show bindC kindOf ((p, w) :: P.zip vs) m p = _
    unfold bindC
    rw [Yn fun v hv => (List.nodup_cons.mp nd).1 (List.of_mem_zip hv).1, if_neg hk]
    simp
  | p :: P, w :: vs, i + 1, m, nd, h1, h2, hk => by
    show bindC kindOf ((p, w) :: P.zip vs) m x = _
    unfold bindC
    exact Yp (i := i) (List.nodup_cons.mp nd).2 (by simpa using h1) (by simpa using h2) hk
noncomputable def start (N : List Str) (vs : List V) : St := vs.map some ++ List.replicate (N.length - vs.length) none
noncomputable def uF (CX : CXT) (P : Program) (w : World) (K : PySem.W.Frag) (mg : Str → Option Value) (base : Heap) (N : List Str) (qual : Str) (scope : Scope) (f : Addr) (cd : Value) (A : Around) (outer : List Env) (s : Shared) (H : Hp) (E : XK) : Cx where
  prog := P
  w := w
  K := K
  mg := mg
  base := base
  A := A.deeper (envOfC qual scope s.heap.objs.size f cd)
  N := N
  s₀ := s
  H₀ := H
  env := envOfC qual scope s.heap.objs.size f cd
  outer := outer
  stack := envOfC qual scope s.heap.objs.size f cd :: outer
  ex := []
  calm := true
  fn := fun _ => true
  pn := []
  xe := fun e s' => wpAny (model P w) (A.deeper (envOfC qual scope s.heap.objs.size f cd)) (leaving (envOfC qual scope s.heap.objs.size f cd) e) (fun _ s'' => CX outer H s E e s'') (fun e' s'' => CX outer H s E e' s'') s'
theorem Xc {sc : Scope} {n : Nat} {x : Str} (h : sc.names.lookup x = some .cell) : ∃ c, (cellsFrom n sc.names []).lookup x = some c := by
  have q := PySem.W.cellsFrom_some sc.names n [] (.inl h)
  exact Option.isSome_iff_exists.mp q
theorem QO {CX : CXT} {P : Program} {w : World} {K : PySem.W.Frag} {mg : Str → Option Value} {base : Heap} {N ps : List Str} {qual : Str} {scope : Scope} {f : Addr} {cd : Value} {A : Around} {outer : List Env} {s s1 : Shared} {H : Hp} {E : XK} {us : List Value} {vs : List V}
    (S : FnScope N ps scope) (hd : A.handled = none) (e0 : Env0 P w K mg base A outer s H) (hl : vs.length = ps.length) (r : Vals vs us)
    (x : InCallC s s.heap.objs.size (bindL (envOfC qual scope s.heap.objs.size f cd).kindOf (ps.zip us) fun _ => none) (cellsFrom (s.heap.objs.size + 1) scope.names []) (bindC (envOfC qual scope s.heap.objs.size f cd).kindOf (ps.zip us) fun _ => none) s1) :
    Inv (uF CX P w K mg base N qual scope f cd A outer s H E) [] (start N vs) H s1 := by
  have hpl : ps.length ≤ N.length := by have := congrArg List.length S.pre; rw [List.length_take] at this; omega
  obtain ⟨h1, tk, rfl, hk⟩ := x.done
  have noA : ∀ b : Addr, b ∉ (uF CX P w K mg base N qual scope f cd A outer s H E).ex := fun b z => absurd (show b ∈ ([] : List Addr) from z) (by simp)
  refine ⟨⟨e0.mod, S.kind, rfl, rfl, Nat.le_refl _, fun y z c h1 h2 => ?_, fun y hy => ?_, fun y c _ h => ?_, fun _ => hd, Around.frames_deeper e0.frames, .inr ⟨rfl, rfl⟩, fun b z => absurd z (noA b), e0.bs, e0.bsz, fun b _ _ => noA b, fun b z => absurd z (noA b), e0.funs, e0.frf⟩,
    rfl, e0.bare, Un.kept hk, ⟨_, x.toInCall.ns, fun i y v h1 h2 h3 => ?_⟩, fun y c h => ⟨_, x.cell y c h⟩, e0.hok.fresh (Nat.le_refl _), fun y c h => ?_, fun p hp => absurd (show p ∈ ([] : List (Addr × Obj)) from hp) (by simp), e0.hok.kept hk, ?_⟩
  · exact name_of_addr x.apart (PySem.mem_of_lookup h1) (PySem.mem_of_lookup h2)
  · have hy : scope.names.lookup y = some .cell ∨ scope.names.lookup y = some .free := hy
    rcases hy with hy | hy
    · exact Xc hy
    · exact absurd rfl (S.nofree _ (PySem.mem_of_lookup hy))
  · exact Nat.le_of_lt (x.above y c (PySem.mem_of_lookup h))
  · have hi : i < vs.length := by
      unfold start at h2
      by_cases hi : i < vs.length
      · exact hi
      · rw [List.getElem?_append_right (by simpa using hi)] at h2
        rw [List.getElem?_replicate] at h2
        split at h2 <;> cases h2
    have ha : vs[i]? = some v := by
      unfold start at h2
      rw [List.getElem?_append_left (by simpa using hi), List.getElem?_map] at h2
      cases e : vs[i]? with
      | none => rw [e] at h2; cases h2
      | some a => rw [e] at h2; cases h2; rfl
    obtain ⟨u, hu, rv⟩ := r.get ha
    have hp : ps[i]? = some y := by
      rw [← S.pre, List.getElem?_take_of_lt (by omega)]; exact h1
    have ndP : ps.Nodup := by rw [← S.pre]; exact S.nd.sublist (List.take_sublist _ _)
    refine ⟨u, rv, ?_⟩
    rcases S.par y (List.mem_of_getElem? hp) with k | k
    · exact .inl ⟨k, Yo ndP hp hu k⟩
    · obtain ⟨c, e⟩ := Xc (n := s.heap.objs.size + 1) k
      refine .inr ⟨.inl k, c, e, ?_⟩
      have q := x.cell y c e
      rw [Yp ndP hp hu (by show scope.names.lookup y ≠ _; rw [k]; decide)] at q
      exact q
  · exact e0.hok.fresh (Nat.le_of_lt (x.above y c (PySem.mem_of_lookup h)))
  · unfold start
    show _ = N.length
    rw [List.length_append, List.length_map, List.length_replicate]
    omega
theorem K4 {CX : CXT} {P : Program} {w : World} {K : PySem.W.Frag} {mg : Str → Option Value} {base : Heap} {k : Nat} {f : Addr} {name qual : Str} {params : Arguments} {body : List Stmt} {scope : Scope} {dV kV doc pm cdv ct oc : Value} {an od : Option Addr}
    {osl : Array (Option Value)} {N ps : List Str} {sp : Sp} (lk : K.lookup f = some ⟨oc, od, .func (PySem.W.fnOf name qual params body scope dV kV doc pm an cdv ct), osl⟩) (hcd : PySem.W.codeIn K cdv qual = true) (S : FnScope N ps scope)
    (len : ∀ vs H Q E, sp vs H Q E → vs.length = ps.length)
    (hbody : ∀ (A : Around) (outer : List Env) (s : Shared) (H : Hp) (vs : List V) (Q : VK) (E : XK), Room k (A.deeper (envOfC qual scope s.heap.objs.size f cdv)) → sp vs H Q E →
      ∃ t, PSs (uF CX P w K mg base N qual scope f cdv A outer s H E) body t ∧ t { nx := fun _ H' => Q .non H', rt := Q } (start N vs) H) :
    FnOk P w K mg base CX (k + 1) f (PySem.W.fnOf name qual params body scope dV kV doc pm an cdv ct) ps sp := by
  refine ⟨len, fun A outer s H args us vs Q E hr e0 hb r hsp => ?_⟩
  have hl := len _ _ _ _ hsp
  have KX : K.In s.heap := e0.mod.kin.keeps fun b o e => (e0.bs b o e).1
  have lim : s.heap.NoLimit := e0.mod.nolimit.keeps fun b o e => (e0.bs b o e).1
  have hkind : ∀ y ∈ ps.zip us, scope.names.lookup y.1 = some .local ∨ (scope.names.lookup y.1 = some .cell ∧ ((cellsFrom (s.heap.objs.size + 1) scope.names []).lookup y.1).isSome = true) := fun ⟨n, v⟩ hy => by
    rcases S.par n (List.of_mem_zip hy).1 with q | q
    · exact .inl q
    · exact .inr ⟨q, PySem.W.cellsFrom_some _ _ _ (.inl q)⟩
  refine codeAny_call_function hr.depth (KX _ _ lk) rfl S.co S.gen rfl (PySem.W.codeRec_of KX hcd) (hb _ _ _ _ ?_)
  refine wpAny_newFunctionEnv_cells S.kind hkind fun env he s1 x => ?_
  subst he
  refine ⟨lim.keeps x.toInCall.keep, codeAny_func ?_⟩
  obtain ⟨t, ht, hq⟩ := hbody A outer s H vs Q E (hr.deeper _) hsp
  have I : Inv (uF CX P w K mg base N qual scope f cdv A outer s H E) [] (start N vs) H s1 := QO S hr.hd e0 hl r x
  refine wpAny_mono (ht [] s1 (start N vs) H _ I hq) (fun fl s' hs => ?_) fun e s' hs => hs
  have fin : ∀ {σ' : St} {H' : Hp} {v : V} {u : Value}, Inv (uF CX P w K mg base N qual scope f cdv A outer s H E) [] σ' H' s' → RelV v u → Q v H' → CE outer P w H s Q u s' :=
    fun {σ' H' v u} J rv q => ⟨v, H', J.os, J.bare, J.base, J.hok, rv, q⟩
  cases fl with
  | ret u =>
    obtain ⟨v, σ', H', J, rv, q⟩ := hs
    exact fin J rv q
  | next =>
    obtain ⟨σ', H', J, q⟩ := hs
    exact fin (v := V.non) (u := Value.none) J rfl q
  | brk =>
    obtain ⟨_, _, _, q⟩ := hs
    exact False.elim q
  | cont =>
    obtain ⟨_, _, _, q⟩ := hs
    exact False.elim q
end L2
namespace L2
open PySem PySem.Spec PyProof.Rows
section
variable {X : Cx} {x : Str} {p pos : Pos} {e : Expr} {es : List Expr} {t : TA} {id T : String} {r : List V → Hp → VK → Prop}
noncomputable def tCB (r : List V → Hp → VK → Prop) (t : TA) : TE := fun σ H Q => t σ H fun vs H1 => r vs H1 Q
theorem y7 (hc : xo X (.builtin id) r) (hg : Gl X x) (hm : X.mg x = none) (hv : bootBuiltins x = some (.builtin id)) (ha : PA X (e :: es) t) (hn : x ≠ "__name__" := by decide) (hdb : (x == ("__debug__" : Str)) = false := by decide)
    (he : starEach (e :: es) X.env = (false, eval e X.env) :: starEach es X.env := by rfl) (hpl : (backTo pos (starEach es X.env)).any (·.1) = false := by rfl) : PE X (.Call (.Name x p) (e :: es) [] pos) (tCB r t) := by
  intro pins s σ H Q I h
  refine wpAny_Call_Name_kw (uA I hg hm hv ?_ hn hdb)
  exact PyProof.Rows.callWith_builtin1 (thn (ha pos pins s σ H _ I h) fun us s1 ⟨vs, H1, I1, r1, q1⟩ => hc pins s1 σ H1 vs us Q I1 r1 q1) he hpl
theorem vy (hc : xo X (.type T) r) (hg : Gl X x) (hm : X.mg x = none) (hv : bootBuiltins x = some (.type T)) (ha : PA X (e :: es) t) (hn : x ≠ "__name__" := by decide) (hdb : (x == ("__debug__" : Str)) = false := by decide)
    (he : starEach (e :: es) X.env = (false, eval e X.env) :: starEach es X.env := by rfl) (hpl : (backTo pos (starEach es X.env)).any (·.1) = false := by rfl) : PE X (.Call (.Name x p) (e :: es) [] pos) (tCB r t) := by
  intro pins s σ H Q I h
  refine wpAny_Call_Name_kw (uA I hg hm hv ?_ hn hdb)
  exact PyProof.Rows.callWith_type1 (thn (ha pos pins s σ H _ I h) fun us s1 ⟨vs, H1, I1, r1, q1⟩ => hc pins s1 σ H1 vs us Q I1 r1 q1) he hpl
end
end L2
namespace HT
open PySem PyProof.Rows
section
open PySem.SeqAt
open PySem.AutoSeq1 (wpAny_loadPart')
open PySem.MeetsSeq PySem.MeetsSeq2 PySem.MeetsSeq3
end
section
variable {prog : Program} {w : World} {A : Around} {E : Value → Shared → Prop} {s : Shared}
theorem cat_tup {t b : Addr} {vs ws : List Value} {Q : Value → Shared → Prop} (ht : IsTup s.heap t vs.toArray) (hb : IsTup s.heap b ws.toArray) (hv : vs ≠ [])
    (h1 : ws = [] → Q (.ref t) s) (h2 : ws ≠ [] → Q (.ref s.heap.objs.size) { s with heap := s.heap.push { cls := .type "tuple", data := .seq (vs ++ ws).toArray } })
    (hsz : vs.length + ws.length ≤ sizeLine) : wpAny (model prog w) A (binaryOp .Add (.ref t) (.ref b)) Q E s := by
  obtain ⟨⟨cls, dd, data, sl⟩, ho, hc, n, hd⟩ := id ht
  obtain ⟨⟨cls2, dd2, data2, sl2⟩, ho2, hc2, n2, hd2⟩ := id hb
  simp only at hc hd hc2 hd2
  subst hc hd hc2 hd2
  have e : vs.toArray ++ ws.toArray = (vs ++ ws).toArray := by simp
  by_cases hw : ws = []
  · exact concat_meets ⟨_, ho, rfl⟩ ⟨_, ho2, rfl⟩ noFill_tuple_add seq_tuple_add PySem.F.slot_tuple_add PySem.F.entry_tuple_add (PySem.F.args_tuple_add_2 _ _)
      (tuple_addW1 t b vs.toArray ws.toArray n n2 dd dd2 sl sl2 (by simpa using hv) (by simp [hw])) ⟨ho, ho2, h1 hw⟩
  · refine concat_meets ⟨_, ho, rfl⟩ ⟨_, ho2, rfl⟩ noFill_tuple_add seq_tuple_add PySem.F.slot_tuple_add PySem.F.entry_tuple_add (PySem.F.args_tuple_add_2 _ _)
      (tuple_addW2 t b vs.toArray ws.toArray n n2 dd dd2 sl sl2 (by simpa using hv) (by simpa using hw) (by rw [List.size_toArray, List.size_toArray]; exact hsz)) ⟨ho, ho2, ?_⟩
    rw [e]
    exact h2 hw
end
end HT
namespace L2
open PySem PySem.Spec PyProof.Rows
noncomputable abbrev TO := St → Hp → (Option Int → Hp → Prop) → Prop
section
variable {X : Cx} {e : Expr} {te : TE} {lo hi : Option Expr} {tl th : TO} {pos p2 : Pos}
noncomputable def SlR (X : Cx) (r : V → Option Int → Option Int → Hp → VK → Prop) : Prop :=
  ∀ (pins : List (Addr × Obj)) (s : Shared) (σ : St) (H : Hp) (x : V) (v vl vu : Value) (lo hi : Option Int) (sl : Addr) (Q : VK), Inv X pins σ H s → RelV x v → s.heap.IsSliceOf sl vl vu .none → IsPart vl lo → IsPart vu hi → r x lo hi H Q →
    ∃ T id, typeLookup (.type T) "__getitem__" = pure (some (.builtin id)) ∧ s.TypeIs v T ∧ wpAny (model X.prog X.w) X.A (getItem v (.ref sl)) (EP X pins σ Q) X.xe s
theorem SlR.or {r r' : V → Option Int → Option Int → Hp → VK → Prop} (h : SlR X r) (h' : SlR X r') : SlR X (fun x lo hi H Q => r x lo hi H Q ∨ r' x lo hi H Q) := by
  intro pins s σ H x v vl vu lo hi sl Q I rx hs pl pu q
  rcases q with q | q
  · exact h pins s σ H x v vl vu lo hi sl Q I rx hs pl pu q
  · exact h' pins s σ H x v vl vu lo hi sl Q I rx hs pl pu q
noncomputable def UA (K : PySem.W.Frag) : R2 := fun x y H Q => ∃ a b xs ys, x = .ref a ∧ y = .ref b ∧ SqT K H a xs ∧ SqT K H b ys ∧ xs ≠ [] ∧ xs.length + ys.length ≤ sizeLine ∧
  (ys = [] → Q (.ref a) H) ∧ (ys ≠ [] → ∀ p, H p = none → Q (.ref p) (upd H p (.tup (xs ++ ys))))
theorem Vals.nil_iff {xs : List V} {us : List Value} (r : Vals xs us) : us = [] ↔ xs = [] := by
  cases r with
  | nil => simp
  | cons _ _ => simp
theorem zaT : OpR X (binaryOp .Add) (UA X.K) := by
  intro pins s σ H x y v u Q I rx ry h
  obtain ⟨a, b, xs, ys, rfl, rfl, ha, hb, hx, hz, q1, q2⟩ := h
  cases rx
  cases ry
  obtain ⟨its, r1, p1, _⟩ := I.tuple ha
  obtain ⟨its2, r2, p2, _⟩ := I.tuple hb
  refine HT.cat_tup p1 p2 (fun z => hx (r1.nil_iff.mp z)) (fun z => ⟨.ref a, H, I, rfl, q1 (r2.nil_iff.mp z)⟩) (fun z => ?_) (by rw [← r1.length, ← r2.length]; exact hz)
  refine ⟨.ref s.heap.objs.size, _, I.laid (t' := s.toks) (o := .tup (xs ++ ys)) (fun b ob q => Heap.get?_push_of_some _ q) (Nat.le_refl _) ?_, rfl, q2 (fun w => z (r2.nil_iff.mpr w)) _ (I.hok.fresh (Nat.le_refl _))⟩
  exact ⟨by rw [List.length_append]; exact hz, _, r1.append r2, IsTup.new _ _⟩
end
end L2
namespace L2
open PySem PySem.Spec PyProof.Rows
noncomputable def ixN (n : Nat) (i : Int) : Option Nat := if 0 ≤ i then (if i < n then some i.toNat else none) else if -(n : Int) ≤ i then some (i + n).toNat else none
noncomputable def atI {α : Type} (xs : List α) (i : Int) : Option α := (ixN xs.length i).bind fun j => xs[j]?
theorem VW {n : Nat} {i : Int} {j : Nat} (h : ixN n i = some j) : seqIndex? i n = some j ∧ j < n ∧ -(n : Int) ≤ i ∧ i < n := by
  unfold ixN at h
  by_cases h0 : 0 ≤ i
  · rw [if_pos h0] at h
    by_cases h1 : i < n
    · rw [if_pos h1] at h
      have e : i.toNat = j := Option.some.inj h
      exact ⟨by rw [seqIndex_of h0 h1, e], by omega, by omega, h1⟩
    · rw [if_neg h1] at h; cases h
  · rw [if_neg h0] at h
    by_cases h1 : -(n : Int) ≤ i
    · rw [if_pos h1] at h
      have e : (i + n).toNat = j := Option.some.inj h
      exact ⟨by rw [seqIndex_neg (by omega) h1, e], by omega, h1, by omega⟩
    · rw [if_neg h1] at h; cases h
theorem Z2 {α : Type} {xs : List α} {i : Int} {v : α} (h : atI xs i = some v) : ∃ j, seqIndex? i xs.length = some j ∧ xs[j]? = some v ∧ j < xs.length ∧ -(xs.length : Int) ≤ i ∧ i < xs.length := by
  unfold atI at h
  cases e : ixN xs.length i with
  | none => rw [e] at h; cases h
  | some j =>
    rw [e] at h
    obtain ⟨h1, h2, h3, h4⟩ := VW e
    exact ⟨j, h1, h, h2, h3, h4⟩
theorem ut {α : Type} {xs : List α} {j : Nat} {v : α} (h : xs[j]? = some v) : atI xs (j : Int) = some v := by
  have hj : j < xs.length := (List.getElem?_eq_some_iff.mp h).1
  have e : ixN xs.length (j : Int) = some j := by
    unfold ixN
    rw [if_pos (by omega), if_pos (by omega)]; simp
  unfold atI; rw [e]; exact h
noncomputable def zaU (b : Expr) : Prop := ∀ o i, subscripted b false o i = operate [o, i] (getItem o i)
noncomputable def IxR (X : Cx) (r : R2) : Prop :=
  ∀ (value slice : Expr) (pins : List (Addr × Obj)) (s : Shared) (σ : St) (H : Hp) (x y : V) (v u : Value) (Q : VK), Inv X pins σ H s → RelV x v → RelV y u → r x y H Q →
    subscripted slice false v u = operate [v, u] (getItem v u) → wpAny (model X.prog X.w) X.A (subscriptTail value slice v u) (EP X pins σ Q) X.xe s
noncomputable def MtR (X : Cx) (id : String) (r : V → List V → Hp → VK → Prop) : Prop :=
  ∀ (pins : List (Addr × Obj)) (s : Shared) (σ : St) (H : Hp) (x : V) (xs : List V) (v : Value) (us : List Value) (Q : VK), Inv X pins σ H s → RelV x v → Vals xs us → r x xs H Q →
    wpAny (model X.prog X.w) X.A (call (.builtin id) (v :: us)) (EP X pins σ Q) X.xe s
section
variable {X : Cx} {a b : Expr} {ta tb : TE} {pos : Pos}
theorem IxR.or {r r' : R2} (h : IxR X r) (h' : IxR X r') : IxR X (fun x y H Q => r x y H Q ∨ r' x y H Q) := by
  intro value slice pins s σ H x y v u Q I rx ry q hs
  rcases q with q | q
  · exact h value slice pins s σ H x y v u Q I rx ry q hs
  · exact h' value slice pins s σ H x y v u Q I rx ry q hs
theorem MtR.or {id : String} {r r' : V → List V → Hp → VK → Prop} (h : MtR X id r) (h' : MtR X id r') : MtR X id (fun x xs H Q => r x xs H Q ∨ r' x xs H Q) := by
  intro pins s σ H x xs v us Q I rx rs q
  rcases q with q | q
  · exact h pins s σ H x xs v us Q I rx rs q
  · exact h' pins s σ H x xs v us Q I rx rs q
theorem yM {r : R2} (hr : IxR X r) (ha : PE X a ta) (hb : PE X b tb) (hs : zaU b) : PE X (.Subscript a b pos) (tOp r ta tb) := by
  intro pins s σ H Q I h
  exact Subscript_ (JE ha hb I h fun v u s2 x y H2 I2 rx ry q => hr a b pins s2 σ H2 x y v u Q I2 rx ry q (hs _ _))
noncomputable def UB (K : PySem.W.Frag) : R2 := fun x y H Q => ∃ p xs i v, x = .ref p ∧ y = .int i ∧ SqL K H p xs ∧ atI xs i = some v ∧ Q v H
noncomputable def JN (K : PySem.W.Frag) : R2 := fun x y H Q => ∃ p xs i v, x = .ref p ∧ y = .int i ∧ SqT K H p xs ∧ atI xs i = some v ∧ Q v H
noncomputable def zce : R2 := fun x y H Q => ∃ z i c, x = .str z ∧ y = .int i ∧ z.length ≤ sizeLine ∧ atI z.cps.toList i = some c ∧ Q (.str ⟨#[c]⟩) H
theorem zaV : IxR X (UB X.K) := by
  intro value slice pins s σ H x y v u Q I rx ry h hs
  obtain ⟨p, xs, i, z, rfl, rfl, hq, he, q⟩ := h
  cases rx
  obtain ⟨t, rfl⟩ := ry
  obtain ⟨its, r, pl, hz⟩ := I.list hq
  obtain ⟨j, h1, h2, h3, h4, h5⟩ := Z2 he
  obtain ⟨w, ew, rw'⟩ := r.get h2
  have hl := r.length
  have hn := uD
  have fin : EP X pins σ Q w s := ⟨z, H, I, rw', q⟩
  by_cases h0 : 0 ≤ i
  · have hj : i.toNat = j := by
      rw [seqIndex_of h0 h5] at h1
      exact Option.some.inj h1
    exact item_listR pl.isList h0 (by omega) (by rw [hj]; simpa using ew) fin hs
  · have hj : (i + (its.toArray.size : Int)).toNat = j := by
      rw [seqIndex_neg (by omega) h4] at h1
      rw [List.size_toArray, ← hl]
      exact Option.some.inj h1
    exact subscriptTail_builtinR (x := w) pl.isList.typeIs slot_list_getitem.lookup
      (wpAny_getItem_list_neg (Q := fun r s' => r = w ∧ EP X pins σ Q r s') pl.isList (by omega) (by rw [List.size_toArray] <;> omega) (by omega) (by rw [hj]; simpa using ew) ⟨rfl, fin⟩) hs
theorem zcf : IxR X (JN X.K) := by
  intro value slice pins s σ H x y v u Q I rx ry h hs
  obtain ⟨p, xs, i, z, rfl, rfl, hq, he, q⟩ := h
  cases rx
  obtain ⟨t, rfl⟩ := ry
  obtain ⟨its, r, pl, hz⟩ := I.tuple hq
  obtain ⟨j, h1, h2, h3, h4, h5⟩ := Z2 he
  obtain ⟨w, ew, rw'⟩ := r.get h2
  have hl := r.length
  have hn := uD
  have fin : EP X pins σ Q w s := ⟨z, H, I, rw', q⟩
  exact subscriptTail_builtinR (x := w) pl.typeIs slot_tuple_getitem.lookup
    (getItem_tuple (j := j) (Q := fun r s' => r = w ∧ EP X pins σ Q r s') pl (by omega) (by omega) (by rw [List.size_toArray, ← hl]; exact h1) (by simpa using ew) ⟨rfl, fin⟩) hs
theorem Xd : IxR X zce := by
  intro value slice pins s σ H x y v u Q I rx ry h hs
  obtain ⟨z, i, c, rfl, rfl, hz, he, q⟩ := h
  obtain ⟨t, rfl⟩ := rx
  obtain ⟨t', rfl⟩ := ry
  obtain ⟨j, h1, h2, h3, h4, h5⟩ := Z2 he
  have hl : z.cps.toList.length = z.length := by simp [Str.length]
  rw [hl] at h1 h4 h5
  have hn := uD
  exact tail_any (typeIs_str s z t) slot_str_getitem.lookup (getItem_str (c := c) (by
    have e1 : decide (i < -(2 ^ 63 : Int)) = false := decide_eq_false (by omega)
    have e2 : decide (i ≥ 2 ^ 63) = false := decide_eq_false (by omega)
    rw [e1, e2, Bool.or_false]) (by rw [h1]; simpa using h2) ⟨.str ⟨#[c]⟩, H, I.tok _, ⟨_, rfl⟩, q⟩) hs
theorem UC (its : List Value) (n j : Nat) (u : Value) : Obj.mapSeq (·.setIfInBounds j u) { cls := .type "list", data := .seq its.toArray n } = { cls := .type "list", data := .seq (its.set j u).toArray n } := by
  simp [Obj.mapSeq]
theorem Inv.lst {pins : List (Addr × Obj)} {σ : St} {H : Hp} {s : Shared} {p : Addr} {xs : List V} (I : Inv X pins σ H s) (h : H p = some (.lst xs)) :
    ∃ (its : List Value) (n : Nat), Vals xs its ∧ s.heap.get? p = some { cls := .type "list", data := .seq its.toArray n } ∧ xs.length ≤ sizeLine := by
  obtain ⟨z, its, n, r, e⟩ := I.hok p _ h
  exact ⟨its, n, r, e, z⟩
theorem Inv.lstUpd {pins : List (Addr × Obj)} {σ : St} {H : Hp} {s : Shared} {p : Addr} {xs ys : List V} {its its' : List Value} {n n' : Nat} {f : Obj → Obj} (I : Inv X pins σ H s) (h : H p = some (.lst xs))
    (ho : s.heap.get? p = some { cls := .type "list", data := .seq its.toArray n }) (hf : f { cls := .type "list", data := .seq its.toArray n } = { cls := .type "list", data := .seq its'.toArray n' }) (r : Vals ys its') (hz : ys.length ≤ sizeLine) (t : Nat) :
    Inv X pins σ (upd H p (.lst ys)) { s with heap := s.heap.update p f, toks := t } := by
  have e : (s.heap.update p f).get? p = some { cls := .type "list", data := .seq its'.toArray n' } := by
    rw [Heap.get?_update_self f ho (by rw [hf] <;> rfl), hf]
  refine I.write (x := p) (e := p) (by rw [h]; trivial) (.inl rfl) (fun b u hb q => (Heap.get?_update_other _ _ (Ne.symm hb)).trans q) ⟨_, e⟩ ?_
  exact ⟨hz, its', n', r, e⟩
noncomputable def K5 : V → V → V → Hp → (Hp → Prop) → Prop := fun o i v H Q => ∃ p xs k j, o = .ref p ∧ i = .int k ∧ H p = some (.lst xs) ∧ ixN xs.length k = some j ∧ Q (upd H p (.lst (xs.set j v)))
theorem xF : zb0 X K5 := by
  intro pins s σ H o i v ov iv u Q I ro ri rv h
  obtain ⟨p, xs, k, j, rfl, rfl, hp, hj, q⟩ := h
  cases ro
  obtain ⟨t, rfl⟩ := ri
  obtain ⟨its, n, r, ho, hz⟩ := I.lst hp
  obtain ⟨h1, h2, h3, h4⟩ := VW hj
  have hl := r.length
  have hn := uD
  have I' : Inv X pins σ (upd H p (.lst (xs.set j v))) { s with heap := s.heap.update p (Obj.mapSeq (·.setIfInBounds j u)) } :=
    I.lstUpd hp ho (UC its n j u) (r.set rv j) (by rw [List.length_set]; exact hz) s.toks
  by_cases h0 : 0 ≤ k
  · have hk : k.toNat = j := by
      rw [seqIndex_of h0 h4] at h1
      exact Option.some.inj h1
    exact PySem.W.ki_setAt ho h0 (by omega) (by rw [List.size_toArray, ← hl]; exact h4) (by rw [hk]; exact ⟨_, I', q⟩)
  · have hk : (k + (its.toArray.size : Int)).toNat = j := by
      rw [seqIndex_neg (by omega) h3] at h1
      rw [List.size_toArray, ← hl]
      exact Option.some.inj h1
    exact PySem.W.ki_setBack ho (by omega) (by rw [List.size_toArray, ← hl]; exact h3) (by omega) (by rw [hk]; exact ⟨_, I', q⟩)
noncomputable def uo : V → Bool
  | .non => true
  | .bl _ => true
  | .int _ => true
  | .str _ => true
  | _ => false
noncomputable def eqV : V → V → Bool
  | .non, .non => true
  | .bl a, .bl b => a == b
  | .bl a, .int b => (if a then 1 else 0) == b
  | .int a, .bl b => a == (if b then 1 else 0)
  | .int a, .int b => a == b
  | .str a, .str b => a == b
  | _, _ => false
theorem zcg {A : Around} {s : Shared} {y x : V} {u v : Value} (ry : RelV y u) (rx : RelV x v) (fy : uo y = true) (fx : uo x = true) : SeqAt.EqAt A s u v (eqV y x) := by
  cases y with
  | non =>
    cases ry
    cases x with
    | non => cases rx; exact SeqAt.EqAt.same _
    | bl b => cases rx; exact SeqAt.EqAt.none_bool b
    | int b => obtain ⟨t, rfl⟩ := rx; exact SeqAt.EqAt.none_int b t
    | str b => obtain ⟨t, rfl⟩ := rx; exact SeqAt.EqAt.none_str b t
    | _ => exact absurd (show false = true from fx) Bool.false_ne_true
  | bl a =>
    cases ry
    cases x with
    | non => cases rx; exact SeqAt.EqAt.bool_none a
    | bl b => cases rx; exact SeqAt.EqAt.bool_bool a b
    | int b => obtain ⟨t, rfl⟩ := rx; exact SeqAt.EqAt.bool_int a b t
    | str b => obtain ⟨t, rfl⟩ := rx; exact SeqAt.EqAt.bool_str a b t
    | _ => exact absurd (show false = true from fx) Bool.false_ne_true
  | int a =>
    obtain ⟨t', rfl⟩ := ry
    cases x with
    | non => cases rx; exact SeqAt.EqAt.int_none a t'
    | bl b => cases rx; exact SeqAt.EqAt.int_bool a t' b
    | int b => obtain ⟨t, rfl⟩ := rx; exact SeqAt.EqAt.int_int a t' b t
    | str b => obtain ⟨t, rfl⟩ := rx; exact SeqAt.EqAt.int_str a t' b t
    | _ => exact absurd (show false = true from fx) Bool.false_ne_true
  | str a =>
    obtain ⟨t', rfl⟩ := ry
    cases x with
    | non => cases rx; exact SeqAt.EqAt.str_none a t'
    | bl b => cases rx; exact SeqAt.EqAt.str_bool a t' b
    | int b => obtain ⟨t, rfl⟩ := rx; exact SeqAt.EqAt.str_int a t' b t
    | str b => obtain ⟨t, rfl⟩ := rx; exact SeqAt.EqAt.str_str a t' b t
    | _ => exact absurd (show false = true from fx) Bool.false_ne_true
  | _ => exact absurd (show false = true from fy) Bool.false_ne_true
noncomputable def eqU (x : V) (u : Value) : Bool := match u with
  | .none => eqV .non x
  | .bool b => eqV (.bl b) x
  | .int i _ => eqV (.int i) x
  | .str z _ => eqV (.str z) x
  | _ => false
theorem QP {x y : V} {u : Value} (r : RelV y u) (f : uo y = true) : eqU x u = eqV y x := by
  cases y with
  | non => cases r; rfl
  | bl b => cases r; rfl
  | int i => obtain ⟨t, rfl⟩ := r; rfl
  | str z => obtain ⟨t, rfl⟩ := r; rfl
  | _ => exact absurd (show false = true from f) Bool.false_ne_true
theorem Z3 {x : V} : ∀ {xs : List V} {us : List Value}, Vals xs us → xs.all uo = true → us.any (eqU x) = xs.any fun y => eqV y x
  | _, _, .nil, _ => rfl
  | y :: xs, u :: us, .cons r t, f => by
    rw [List.all_cons, Bool.and_eq_true] at f
    rw [List.any_cons, List.any_cons, QP r f.1, Z3 t f.2]
theorem kJ {A : Around} {s : Shared} {x : V} {v : Value} (rx : RelV x v) (fx : uo x = true) : ∀ {xs : List V} {us : List Value}, Vals xs us → xs.all uo = true → ∀ u ∈ us, SeqAt.EqAt A s u v (eqU x u)
  | _, _, .nil, _ => fun u hu => by cases hu
  | y :: xs, u :: us, .cons r t, f => fun u' hu => by
    rw [List.all_cons, Bool.and_eq_true] at f
    rcases List.mem_cons.mp hu with rfl | hu
    · rw [QP r f.1]; exact zcg r rx f.1 fx
    · exact kJ rx fx t f.2 u' hu
noncomputable def inV (x : V) (xs : List V) : Bool := xs.any fun y => eqV y x
noncomputable def rIn (K : PySem.W.Frag) (neg : Bool) : R2 := fun x y H Q => ∃ p xs, y = .ref p ∧ (SqL K H p xs ∨ SqT K H p xs) ∧ uo x = true ∧ xs.all uo = true ∧ Q (.bl (if neg then !inV x xs else inV x xs)) H
theorem QQ : OpR X (compareOp .In) (rIn X.K false) := by
  intro pins s σ H x y v u Q I rx ry h
  obtain ⟨p, xs, rfl, hq, fx, fs, q⟩ := h
  cases ry
  rcases hq with hq | hq
  · obtain ⟨its, r, pl, hz⟩ := I.list hq
    refine SeqAt.in_listAt (eqU x) pl.isList (fun w hw => kJ rx fx r fs w (by simpa using hw)) ⟨.bl _, H, I, rfl, ?_⟩
    rw [show its.toArray.any (eqU x) = its.any (eqU x) by simp, Z3 r fs]
    exact q
  · obtain ⟨its, r, pl, hz⟩ := I.tuple hq
    refine SeqAt.in_tupleAt (eqU x) pl (fun w hw => kJ rx fx r fs w (by simpa using hw)) ⟨.bl _, H, I, rfl, ?_⟩
    rw [show its.toArray.any (eqU x) = its.any (eqU x) by simp, Z3 r fs]
    exact q
theorem Xe : xo X (.builtin "len") (fun xs H Q => ∃ p ys, xs = [.ref p] ∧ (SqL X.K H p ys ∨ SqT X.K H p ys) ∧ Q (.int ys.length) H) := by
  intro pins s σ H xs us Q I r h
  obtain ⟨p, ys, rfl, hq, q⟩ := h
  obtain ⟨u, rfl, rx⟩ := YO r
  cases rx
  have hn := uD
  rcases hq with hq | hq
  · obtain ⟨its, r', pl, hz⟩ := I.list hq
    have hlen := r'.length
    exact Calls.call_len_list pl.isList (by simp only [List.size_toArray] <;> omega) ⟨.int ys.length, H, I.tok _, ⟨s.toks + 1, by rw [List.size_toArray, hlen]⟩, q⟩
  · obtain ⟨its, r', pl, hz⟩ := I.tuple hq
    have hlen := r'.length
    exact len_tuple pl (by simp only [List.size_toArray] <;> omega) ⟨.int ys.length, H, I.tok _, ⟨s.toks + 1, by rw [List.size_toArray, hlen]⟩, q⟩
theorem Xf : xo X (.builtin "len") (fun xs H Q => ∃ z, xs = [.str z] ∧ z.length ≤ sizeLine ∧ Q (.int z.length) H) := by
  intro pins s σ H xs us Q I r h
  obtain ⟨z, rfl, hz, q⟩ := h
  obtain ⟨u, rfl, t, rfl⟩ := YO r
  have hn := uD
  exact len_str (by omega) ⟨.int z.length, H, I.tok _, ⟨_, rfl⟩, q⟩
theorem xo.or {f : Value} {r r' : List V → Hp → VK → Prop} (h : xo X f r) (h' : xo X f r') : xo X f (fun xs H Q => r xs H Q ∨ r' xs H Q) := by
  intro pins s σ H xs us Q I rs q
  rcases q with q | q
  · exact h pins s σ H xs us Q I rs q
  · exact h' pins s σ H xs us Q I rs q
theorem Xg : xo X (.type "list") (fun xs H Q => ∃ p ys, xs = [.ref p] ∧ (SqL X.K H p ys ∨ SqT X.K H p ys) ∧ ∀ l, H l = none → Q (.ref l) (upd H l (.lst ys))) := by
  intro pins s σ H xs us Q I r h
  obtain ⟨p, ys, rfl, hq, q⟩ := h
  obtain ⟨u, rfl, rx⟩ := YO r
  cases rx
  have fin : ∀ (its : List Value), Vals ys its → ys.length ≤ sizeLine → ∀ (h' : Heap) (c' : Nat), (∀ b o', s.heap.get? b = some o' → h'.get? b = some o') →
      h'.get? s.heap.objs.size = some { cls := .type "list", dict := none, data := .seq its.toArray c', slots := #[] } → EP X pins σ Q (.ref s.heap.objs.size) { s with heap := h' } := fun its r' hz h' c' kp e =>
    ⟨.ref s.heap.objs.size, _, I.laid (t' := s.toks) kp (Nat.le_refl _) (show xc X.prog X.w _ h' _ (.lst ys) from ⟨hz, its, c', r', e⟩), rfl, q _ (I.hok.fresh (Nat.le_refl _))⟩
  rcases hq with hq | hq
  · obtain ⟨its, r', pl, hz⟩ := I.list hq
    have hlen := r'.length
    obtain ⟨o, ho, hc, n, hd⟩ := pl.isList
    exact call_list_seq p (.inl rfl) ho hc hd (fun h' c' kp e => fin its r' hz h' c' kp e) (by simp only [List.size_toArray] <;> omega)
  · obtain ⟨its, r', pl, hz⟩ := I.tuple hq
    have hlen := r'.length
    obtain ⟨o, ho, hc, n, hd⟩ := pl
    exact call_list_seq p (.inr rfl) ho hc hd (fun h' c' kp e => fin its r' hz h' c' kp e) (by simp only [List.size_toArray] <;> omega)
theorem YD : xo X (.type "tuple") (fun xs H Q => ∃ p ys, xs = [.ref p] ∧ ((SqL X.K H p ys ∧ ∀ l, H l = none → Q (.ref l) (upd H l (.tup ys))) ∨ (SqT X.K H p ys ∧ Q (.ref p) H))) := by
  intro pins s σ H xs us Q I r h
  obtain ⟨p, ys, rfl, h⟩ := h
  obtain ⟨u, rfl, rx⟩ := YO r
  cases rx
  rcases h with ⟨hq, q⟩ | ⟨hq, q⟩
  · obtain ⟨its, r', pl, hz⟩ := I.list hq
    have hlen := r'.length
    refine call_tuple_list pl.isList (fun h' kp => ?_) (by simp only [List.size_toArray] <;> omega)
    have I1 : Inv X pins σ H { s with heap := h' } := I.kept (t' := s.toks) kp
    have I2 : Inv X pins σ (upd H h'.objs.size (.tup ys)) { s with heap := h'.push { cls := .type "tuple", data := .seq its.toArray } } :=
      I1.laid (t' := s.toks) (fun b o e => Heap.get?_push_of_some _ e) (Nat.le_refl _) (show xc X.prog X.w _ _ _ (.tup ys) from ⟨hz, its, r', IsTup.new _ _⟩)
    exact ⟨.ref h'.objs.size, _, I2, rfl, q _ (I1.hok.fresh (Nat.le_refl _))⟩
  · obtain ⟨its, r', pl, hz⟩ := I.tuple hq
    exact call_tuple_same pl ⟨.ref p, H, I, rfl, q⟩
noncomputable def tyV (K : PySem.W.Frag) (T : String) (x : V) (H : Hp) : Prop := match x with
  | .str _ => T = "str"
  | .int _ => T = "int"
  | .ref p => (T = "list" ∧ ∃ xs, SqL K H p xs) ∨ (T = "tuple" ∧ ∃ o, K.lookup p = some o ∧ o.cls = .type "tuple" ∧ o.dict = none) ∨
      (T = "dict" ∧ ((∃ kvs, H p = some (.dK kvs)) ∨ ∃ kvs, H p = some (.dT kvs))) ∨ (T = "set" ∧ ∃ S n, H p = some (.set S n))
  | _ => False
theorem zch {pins : List (Addr × Obj)} {σ : St} {H : Hp} {s : Shared} {T : String} {x : V} {v : Value} (I : Inv X pins σ H s) (r : RelV x v) (ty : tyV X.K T x H) :
    s.TypeIs v T ∧ ∀ a, v = .ref a → ∃ ob, s.heap.get? a = some ob ∧ ob.dict = none := by
  cases x with
  | str z =>
    obtain ⟨t, rfl⟩ := r
    cases (show T = "str" from ty)
    exact ⟨typeIs_str s z t, fun _ e => nomatch e⟩
  | int i =>
    obtain ⟨t, rfl⟩ := r
    cases (show T = "int" from ty)
    exact ⟨typeIs_int s i t, fun _ e => nomatch e⟩
  | ref p =>
    cases r
    rcases ty with ⟨rfl, xs, hq⟩ | ⟨rfl, o, hk, hc, hd⟩ | ⟨rfl, hk⟩ | ⟨rfl, S, n, hk⟩
    · obtain ⟨its, _, pl, _⟩ := I.list hq
      refine ⟨pl.isList.typeIs, fun a e => ?_⟩
      cases e
      obtain ⟨o, n, e, c, hd, _⟩ := pl
      exact ⟨o, e, hd⟩
    · refine ⟨⟨o, I.kIn p o hk, hc⟩, fun a e => ?_⟩
      cases e
      exact ⟨o, I.kIn _ o hk, hd⟩
    · have z : ∃ o, s.heap.get? p = some o ∧ o.ExactDict := by
        rcases hk with ⟨kvs, hk⟩ | ⟨kvs, hk⟩
        · obtain ⟨_, _, _, _, o, _, _, e, ex, _⟩ := I.hok p _ hk
          exact ⟨o, e, ex⟩
        · obtain ⟨_, _, _, _, o, _, _, e, ex, _⟩ := I.hok p _ hk
          exact ⟨o, e, ex⟩
      obtain ⟨o, e, ex⟩ := z
      refine ⟨⟨o, e, ex.1⟩, fun a e2 => ?_⟩
      cases e2
      exact ⟨o, e, ex.2.1⟩
    · obtain ⟨o, _, _, _, e, ex, _⟩ := I.hok p _ hk
      refine ⟨⟨o, e, ex.1⟩, fun a e2 => ?_⟩
      cases e2
      exact ⟨o, e, ex.2.1⟩
  | _ => exact False.elim ty
noncomputable def tBM (K : PySem.W.Frag) (T : String) (r : V → List V → Hp → VK → Prop) (to : TE) (t : TA) : TE := fun σ H Q => to σ H fun x H1 => tyV K T x H1 ∧ t σ H1 fun xs H2 => r x xs H2 Q
variable {o e : Expr} {es : List Expr} {to : TE} {t : TA} {name : Str} {apos cpos : Pos} {T id : String} {r : V → List V → Hp → VK → Prop}
theorem zds (pa : PlainAttrs T) (slot : Slot T name id) (hty : typeOf (.builtin id) = pure (.type "method_descriptor")) (hm : MtR X id r) (ho : PE X o to) (ha : PA X (e :: es) t)
    (hbase : attributeBase o name X.env (eval o X.env) = eval o X.env := by rfl)
    (hfew : ((backTo cpos (starEach (e :: es) X.env)).all (fun x => !x.1) && (backToKw cpos (keywordEach [] X.env)).all (fun x => x.1.isSome)
      && decide ((e :: es).length + ([] : List Keyword).length + (if ([] : List Keyword).isEmpty then 0 else 1) < 30)) = true := by rfl)
    (hline : (apos.endLine == cpos.line) = true := by rfl) (hs : starEach (e :: es) X.env = (false, eval e X.env) :: starEach es X.env := by rfl) (hplain : (backTo cpos (starEach es X.env)).any (·.1) = false := by rfl) :
    PE X (.Call (.Attribute o name apos) (e :: es) [] cpos) (tBM X.K T r to t) := by
  intro pins s σ H Q I h
  refine wpAny_Call_method_late hbase hfew hline rfl (thn (ho pins s σ H _ I h) fun v s1 ⟨x, H1, I1, r1, ty, q1⟩ => ?_)
  obtain ⟨h1, h2⟩ := zch I1 r1 ty
  refine ⟨T, id, pa, slot, hty, h1, h2, ?_⟩
  have hA := ha cpos pins s1 σ H1 _ I1 q1
  rw [hs] at hA ⊢
  refine Calls.callWith_builtin (by show (false || (backTo cpos (starEach es X.env)).any (·.1)) = false; rw [hplain] <;> rfl) (Calls.evalArgs_plain ?_)
  exact thn hA fun us s2 ⟨vs, H2, I2, r2, q2⟩ => hm pins s2 σ H2 x vs v us Q I2 r1 r2 q2
end
end L2
namespace L2
open PySem PySem.Spec PyProof.Rows
noncomputable def MtM (X : Cx) (id : String) (r : V → List V → Hp → VK → Prop) : Prop :=
  ∀ (pins : List (Addr × Obj)) (s : Shared) (σ : St) (H : Hp) (x : V) (xs : List V) (v : Value) (us : List Value) (Q : VK), Inv X pins σ H s → RelV x v → Vals xs us → r x xs H Q →
    wpAny (model X.prog X.w) X.A (call (.builtin id) (v :: us)) (EP X pins σ Q) X.xe s
theorem Vals.one : ∀ {x : V} {us : List Value}, Vals [x] us → ∃ u, us = [u] ∧ RelV x u
  | _, _, .cons r .nil => ⟨_, rfl, r⟩
theorem Vals.two : ∀ {x y : V} {us : List Value}, Vals [x, y] us → ∃ u v, us = [u, v] ∧ RelV x u ∧ RelV y v
  | _, _, _, .cons r (.cons q .nil) => ⟨_, _, rfl, r, q⟩
theorem Vals.zero : ∀ {us : List Value}, Vals [] us → us = []
  | _, .nil => rfl
theorem Vals.reverse {xs : List V} {us : List Value} (h : Vals xs us) : Vals xs.reverse us.reverse := by
  induction h with
  | nil => exact .nil
  | cons r t ih => rw [List.reverse_cons, List.reverse_cons]; exact Vals.append ih (.cons r .nil)
section
variable {X : Cx} {pins : List (Addr × Obj)} {σ : St} {H : Hp} {s : Shared} {l b : Addr} {xs ys zs : List V}
theorem Inv.lset {its its' : List Value} {n : Nat} {f : Array Value → Array Value} {t' : Nat} (I : Inv X pins σ H s) (hH : H l = some (.lst xs))
    (e : s.heap.get? l = some { cls := .type "list", data := .seq its.toArray n }) (hf : f its.toArray = its'.toArray) (hv : Vals ys its') (hz : ys.length ≤ sizeLine) :
    Inv X pins σ (upd H l (.lst ys)) { s with heap := s.heap.update l (Obj.mapSeq f), toks := t' } := by
  have q := PySem.IsL.update e f
  rw [hf] at q
  refine I.write (x := l) (e := l) (by rw [hH]; exact trivial) (.inl rfl) (fun b' u hb hu => (Heap.get?_update_other s.heap (Obj.mapSeq f) (Ne.symm hb)).trans hu) ⟨_, q⟩ ?_
  exact ⟨hz, its', _, hv, q⟩
theorem Inv.lnew {its : List Value} {t' : Nat} (I : Inv X pins σ H s) (hv : Vals ys its) (hz : ys.length ≤ sizeLine) :
    Inv X pins σ (upd H s.heap.objs.size (.lst ys)) { s with heap := s.heap.push { cls := .type "list", data := .seq its.toArray }, toks := t' } :=
  I.laid (fun _ _ q => Heap.get?_push_of_some _ q) (Nat.le_refl _) ⟨hz, its, 0, hv, Heap.get?_push_size _ rfl⟩
theorem Inv.fresh (I : Inv X pins σ H s) : H s.heap.objs.size = none := I.hok.fresh (Nat.le_refl _)
theorem Inv.lstM (I : Inv X pins σ H s) (hH : H l = some (.lst xs)) : xs.length ≤ sizeLine ∧ ∃ (its : List Value) (n : Nat), Vals xs its ∧ xs.length = its.length ∧ s.heap.get? l = some { cls := .type "list", data := .seq its.toArray n } := by
  obtain ⟨z, its, n, r, e⟩ := I.hok l _ hH
  exact ⟨z, its, n, r, r.length, e⟩
end
section
variable {X : Cx}
noncomputable def VX : V → List V → Hp → VK → Prop := fun x vs H Q => ∃ l xs y, x = .ref l ∧ vs = [y] ∧ H l = some (.lst xs) ∧ xs.length < sizeLine ∧ Q .non (upd H l (.lst (xs ++ [y])))
theorem vz : MtM X "list.append" VX := by
  intro pins s σ H x vs v us Q I rx rv h
  obtain ⟨l, xs, y, rfl, rfl, hH, hz, q⟩ := h
  cases rx
  obtain ⟨u, rfl, ru⟩ := rv.one
  obtain ⟨z, its, n, r, hl, e⟩ := I.lstM hH
  refine call_meets F.slot_list_append ⟨_, e, rfl⟩ F.entry_list_append (F.args_list_append_2 _ _) (PySem.list_append l its.toArray n u (by rw [List.size_toArray]; omega)) ⟨e, ?_⟩
  refine ⟨.non, _, I.lset (its' := its ++ [u]) hH e (by simp) (r.append (.cons ru .nil)) ?_, rfl, q⟩
  rw [List.length_append, List.length_singleton]
  omega
end
section
variable {prog : Program} {w : World} {A : Around} {E : Value → Shared → Prop} {s : Shared}
end
section
variable {X : Cx}
end
end L2
namespace Att
open PySem PySem.W PySem.Calls PyProof.Rows
theorem Zf {P : Params} {h : Heap} : ∀ (ns : List Int) (vs : List Value), WellAll P h vs (ns.map WData.int) → IntsAre vs ns := by
  intro ns
  induction ns with
  | nil =>
    intro vs w
    rw [List.map_nil] at w
    cases w
    exact .nil
  | cons n ns ih =>
    intro vs w
    rw [List.map_cons] at w
    cases w with
    | cons a b =>
      cases a
      exact .cons _ _ (ih _ b)
theorem QR {l : OpenLaw} {n : Nat} (hn : l.most = some n) {P : Params} {h : Heap} {args : List WData} {vals : List Value}
    (hpre : l.row.toRowW.claim.pre args = true) (hwl : WellAll P h vals args) :
    ∃ a vs ns, vals = [Value.ref a] ∧ args = [WData.list (ns.map WData.int)] ∧ h.get? a = some { cls := .type "list", data := .seq vs.toArray } ∧ IntsAre vs ns ∧ ns.length ≤ n := by
  have hsh : WShape.hasAll [] args [.list .int] = true := (pre_splitW hpre).1
  have hc : l.pre.holds [] { args := args } = true := (pre_splitW hpre).2
  obtain ⟨d, r, rfl, h1, h2⟩ := hasAllW_cons hsh
  obtain rfl := hasAllW_nil h2
  obtain ⟨xs, rfl, h3⟩ := hasW_list h1
  obtain ⟨ns, rfl⟩ := items_int h3
  have hlen : ns.length ≤ n := by
    unfold OpenLaw.pre at hc
    have h4 : (WTm.not (.lt (.lit (.int (n : Int))) (.len (.arg 0)))).holds [] { args := [.list (ns.map .int)] } = true := by
      have h4 := (holds_andW hc).1
      rw [hn] at h4
      exact h4
    have h5 := condW_of h4 (w_not (w_lt w_lit (w_len_list (w_arg rfl))))
    rw [List.length_map] at h5
    refine Nat.le_of_not_lt fun q => ?_
    have q' : (n : Int) < ((ns.length : Nat) : Int) := by omega
    first
      | (rw [decide_eq_true q'] at h5; exact absurd h5 (by decide))
      | (simp at h5; omega)
  cases hwl with
  | cons w1 w2 =>
    cases w2
    cases w1 with
    | list ho hall => exact ⟨_, _, ns, rfl, rfl, ho, Zf ns _ hall, hlen⟩
theorem QS (l : OpenLaw) (args : List WData) : l.row.toRowW.claim.post args (.bool true) args = true :=
  postW_of (r := l.row.toRowW) (X := (true == true))
    (show WShape.has [] (.bool true) .bool = true by first | rfl | decide | simp [WShape.has, WShape.arms, WShape.armsAll])
    (show (WTm.eq .res (.lit (.bool true))).value [] { args := args, res := some (.bool true), after := args } = some (.bool (true == true)) from w_eq_bool (w_res rfl) w_lit) rfl
section
variable {prog : Program} {w : World} {A : Around} {E : Value → Shared → Prop} {s : Shared} {K : Frag}
noncomputable def zex (h : Heap) (L d : Addr) : List (Addr × Obj) := (List.range h.objs.size).filterMap fun a => if a = L ∨ a = d then none else (h.get? a).map fun o => (a, o)
end
end Att
namespace L2
open PySem PySem.Spec PyProof.Rows
theorem jA : ∀ {vs : List Value} {ns : List Int}, IntsAre vs ns → Vals (ns.map V.int) vs
  | _, _, .nil => .nil
  | _, _, .cons n t h => .cons ⟨t, rfl⟩ (jA h)
noncomputable def zci (H : Hp) : Prop := ∀ b, H b = none ∨ ∃ o xs, H b = some (.frz o (.lst xs))
theorem JO {P : Program} {w : World} {K : PySem.W.Frag} {mg mb : Str → Option Value} {CX : CXT} {k : Nat} {fa a : Addr} {fd : FuncData} {x : Str} {sp : Sp} {s₁ : Shared} {vs : List Value} {ns : List Int}
    (KX : K.In s₁.heap) (hns : s₁.heap.Ns mainGlobals mg) (hb : s₁.heap.Ns builtinsNs mb) (hbb : ∀ x : Str, x ≠ "__name__" → mb x = bootBuiltins x) (hlim : s₁.heap.NoLimit) (hg : s₁.gens = #[])
    (ha : s₁.heap.get? a = some { cls := .type "list", data := .seq vs.toArray }) (hi : IntsAre vs ns) (hl : ns.length ≤ sizeLine) (hr : Room k callerA)
    (F : ∀ base : Heap, K.In base → base.Ns mainGlobals mg → FnOk P w K mg base CX k fa fd [x] sp) (hbind : ∀ (s : Shared) (u : Value), BindsTo s fd ⟨[u], []⟩ [(x, u)])
    (hsp : ∀ H : Hp, zci H → SqL K H a (ns.map V.int) → sp [.ref a] H (fun v _ => v = .bl true) fun _ _ _ => False)
    (hCX : ∀ H e s', CX [] H s₁ (fun _ _ _ => False) e s' → False) :
    codeAny (model P w) callerA (.call (.ref fa) ⟨[.ref a], []⟩) (fun r s' => r = .ok (.ret (.bool true)) ∧ OldK s₁.heap s'.heap ∧ s'.os = s₁.os ∧ AllBare s'.gens) s₁ := by
  have rv := jA hi
  have lenV := hi.length
  have core : ∀ H : Hp, zci H → SqL K H a (ns.map V.int) → HOk P w H s₁.heap → (∀ b, H b ≠ none → b = a) → (H a ≠ none → K.lookup a = none) →
      codeAny (model P w) callerA (.call (.ref fa) ⟨[.ref a], []⟩) (fun r s' => r = .ok (.ret (.bool true)) ∧ OldK s₁.heap s'.heap ∧ s'.os = s₁.os ∧ AllBare s'.gens) s₁ := by
    intro H hO hS hok hA hK
    have base_of : ∀ {b : Addr} {o : Obj}, s₁.heap.get? b = some o → H b = none → (qQ s₁.heap H).get? b = some o := fun e n => Jy e n
    have noA : ∀ {b : Addr} {o : Obj} {es : Array DictEntry} {ep : Nat}, s₁.heap.get? b = some o → o.data = .dict es ep → H b = none := fun {b o es ep} e d => by
      cases q : H b with
      | none => rfl
      | some u =>
        have e' : b = a := hA b (by rw [q]; simp)
        subst e'
        rw [ha] at e; cases e
        have d' : Data.seq vs.toArray _ = Data.dict es ep := d
        cases d'
    have nsK : ∀ {b : Addr} {m : Str → Option Value}, s₁.heap.Ns b m → (qQ s₁.heap H).Ns b m := fun {b m} ⟨o, es, ep, e, d, r⟩ => ⟨o, es, ep, base_of e (noA e d), d, r⟩
    have hKb : K.In (qQ s₁.heap H) := fun b o e => base_of (KX b o e) (by
      cases q : H b with
      | none => rfl
      | some u =>
        have e' : b = a := hA b (by rw [q]; simp)
        subst e'
        rw [hK (by rw [q]; simp)] at e; cases e)
    have hM : Mod K mg (qQ s₁.heap H) := ⟨hKb, nsK hns, ⟨mb, nsK hb, hbb⟩, let ⟨mc, h1, h2⟩ := hlim; ⟨mc, nsK h1, h2⟩⟩
    have e0 : Env0 P w K mg (qQ s₁.heap H) callerA [] s₁ H := ⟨rfl, hM, fun b o e => zaI e, Nat.le_of_eq (QC _ _), trivial, fun b hb => absurd (show b ∈ ([] : List Addr) from hb) (by simp), hok, .of_eq hg⟩
    refine codeAny_mono ((F _ hKb (nsK hns)).run callerA [] s₁ H ⟨[.ref a], []⟩ [.ref a] [.ref a] _ _ hr e0 (hbind s₁ (.ref a)) (.cons rfl .nil) (hsp H hO hS)) fun r s' h => ?_
    cases r with
    | error e => exact (hCX H e s' h).elim
    | ok fl =>
      cases fl with
      | next => exact False.elim h
      | brk => exact False.elim h
      | cont => exact False.elim h
      | ret u =>
        obtain ⟨v, H', os, bare, un, hok', r', q⟩ := h
        have q' : v = .bl true := q
        subst q'
        obtain rfl : u = Value.bool true := r'
        refine ⟨rfl, OldK.of_keep fun b o e => ?_, os, bare⟩
        cases q : H b with
        | none => exact un.keep b o e q (by intro z; exact absurd (show b ∈ ([] : List Addr) from z) (by simp)) (by simp)
        | some u =>
          rcases hO b with z | ⟨ob, xs, z⟩
          · rw [q] at z; cases z
          · have z2 := un.frzs b ob _ z
            obtain ⟨e1, _⟩ := hok b _ z
            obtain ⟨e2, _⟩ := hok' b _ z2
            rw [e] at e1; cases e1
            exact e2
  cases hk : K.lookup a with
  | some o =>
    have e := KX a o hk
    rw [ha] at e
    cases e
    refine core (fun _ => none) (fun _ => .inl rfl) (.inr ⟨_, vs.toArray, _, hk, rfl, rfl, rfl, by rw [List.size_toArray, lenV]; exact hl, by simpa using rv⟩) (fun b u z => by have z' : (none : Option HO) = some u := z; cases z') (fun b z => absurd rfl z) fun z => absurd rfl z
  | none =>
    refine core (fun b => if b = a then some (.frz { cls := .type "list", data := .seq vs.toArray } (.lst (ns.map V.int))) else none) (fun b => ?_) (.inl (.inr ⟨{ cls := .type "list", data := .seq vs.toArray }, if_pos rfl⟩)) (fun b u z => ?_) (fun b z => ?_) fun _ => hk
    · by_cases hb : b = a
      · exact .inr ⟨_, _, if_pos hb⟩
      · exact .inl (if_neg hb)
    · by_cases hb : b = a
      · have z' := (if_pos hb).symm.trans z
        cases z'
        subst hb
        exact ⟨ha, by rw [List.length_map]; exact hl, vs, _, rv, ha⟩
      · have z' := (if_neg hb).symm.trans z
        cases z'
    · by_cases hb : b = a
      · exact hb
      · exact absurd (if_neg hb) z
end L2
namespace L2
open PySem PySem.Spec PyProof.Rows
end L2
namespace L2
open PySem PySem.Spec PyProof.Rows
noncomputable def VY (s : Stmt) (j : Nat) : Stmt := match s with
  | .ClassDef _ _ _ body _ _ _ _ _ _ _ => body.getD j (.Pass ⟨0, 0, 0, 0⟩)
  | _ => .Pass ⟨0, 0, 0, 0⟩
noncomputable def defArgs (s : Stmt) : Arguments := match s with
  | .FunctionDef _ a _ _ _ _ _ _ _ _ => a
  | _ => { posonlyargs := [], args := [], vararg := none, kwonlyargs := [], kw_defaults := [], kwarg := none, defaults := [] }
noncomputable def defBody (s : Stmt) : List Stmt := match s with
  | .FunctionDef _ _ b _ _ _ _ _ _ _ => b
  | _ => []
noncomputable def defScope (s : Stmt) : Scope := match s with
  | .FunctionDef _ _ _ _ _ _ sc _ _ _ => sc
  | _ => { kind := .function, names := [], isGenerator := false, isCoroutine := false }
noncomputable abbrev CX0 : CXT := fun _ _ _ _ _ _ => False
noncomputable abbrev E0 : XK := fun _ _ _ => False
theorem UD {X : Cx} : uE CX0 X E0 := fun _ _ _ _ _ _ _ h => h.elim
structure Fun (K : PySem.W.Frag) (x qual : Str) (st : Stmt) (f : Addr) (fd : FuncData) : Prop where
  ex : ∃ (oc : Value) (od : Option Addr) (kV doc pm : Value) (an : Option Addr) (cdv ct : Value) (osl : Array (Option Value)),
    fd = PySem.W.fnOf x qual (defArgs st) (defBody st) (defScope st) .none kV doc pm an cdv ct ∧ K.lookup f = some ⟨oc, od, .func fd, osl⟩ ∧ PySem.W.codeIn K cdv qual = true
  kp : PySem.W.keepIn K (.ref f) = true
section
variable {P : Program} {w : World} {K : PySem.W.Frag} {mg : Str → Option Value} {base : Heap}
theorem Fun.ok {x qual : Str} {st : Stmt} {f : Addr} {fd : FuncData} {N ps : List Str} {k : Nat} {sp : Sp} (F : Fun K x qual st f fd) (S : FnScope N ps (defScope st)) (len : ∀ vs H Q E, sp vs H Q E → vs.length = ps.length)
    (hbody : ∀ (cdv : Value) (A : Around) (outer : List Env) (s : Shared) (H : Hp) (vs : List V) (Q : VK) (E : XK), Room k (A.deeper (envOfC qual (defScope st) s.heap.objs.size f cdv)) → sp vs H Q E →
      ∃ t, PSs (uF CX0 P w K mg base N qual (defScope st) f cdv A outer s H E).nox (defBody st) t ∧ t { nx := fun _ H' => Q .non H', rt := Q } (start N vs) H) : FnOk P w K mg base CX0 (k + 1) f fd ps sp := by
  obtain ⟨oc, od, kV, doc, pm, an, cdv, ct, osl, rfl, lk, hcd⟩ := F.ex
  refine K4 lk hcd S len fun A outer s H vs Q E hr hsp => ?_
  obtain ⟨t, h, q⟩ := hbody cdv A outer s H vs Q E hr hsp
  exact ⟨t, h.nox, q⟩
theorem Fun.binds {x qual : Str} {st : Stmt} {f : Addr} {fd : FuncData} {ps : List Str} (F : Fun K x qual st f fd)
    (h : ∀ (kV doc pm : Value) (an : Option Addr) (cdv ct : Value) (us : List Value), us.length = ps.length → bindArgs (PySem.W.fnOf x qual (defArgs st) (defBody st) (defScope st) .none kV doc pm an cdv ct) ⟨us, []⟩ = pure (ps.zip us)) : Binds K fd ps [] := by
  obtain ⟨oc, od, kV, doc, pm, an, cdv, ct, osl, rfl, lk, hcd⟩ := F.ex
  exact .all (h kV doc pm an cdv ct)
theorem Xh {x qual : Str} {st : Stmt} {f : Addr} {oc : Value} {od an : Option Addr} {osl : Array (Option Value)} {kV doc pm cdv ct : Value} (l : K.lookup f = some ⟨oc, od, .func (PySem.W.fnOf x qual (defArgs st) (defBody st) (defScope st) .none kV doc pm an cdv ct), osl⟩)
    (c : PySem.W.codeIn K cdv qual = true) (k : PySem.W.keepIn K (.ref f) = true) : Fun K x qual st f (PySem.W.fnOf x qual (defArgs st) (defBody st) (defScope st) .none kV doc pm an cdv ct) := ⟨⟨oc, od, kV, doc, pm, an, cdv, ct, osl, rfl, l, c⟩, k⟩
end
theorem zk {A : Around} {k : Nat} (hr : Room k A) : A.units + 1 < cLine := Nat.lt_of_le_of_lt (Nat.add_le_add_left (by decide : 1 ≤ 64) _) hr.units
theorem x5 {n : Nat} (h : n ≤ 1000) : n < sizeLine := Nat.lt_of_le_of_lt h (by decide)
section
variable {X : Cx}
theorem pv (i : Nat) {x : Str} {pos : Pos} (hN : X.N[i]? = some x := by rfl) (hv : Vis X.env.scope x := by first | exact Or.inl rfl | exact Or.inr (Or.inl rfl) | exact Or.inr (Or.inr rfl)) (hd : (x == ("__debug__" : Str)) = false := by decide)
    (hcd : (x == ("__classdict__" : Str)) = false := by decide) : PE X (.Name x pos) (Ug i) := zbT hN hv hd hcd
end
noncomputable def Same (H H' : Hp) : Prop := ∀ b o, H b = some o → H' b = some o
theorem Same.refl (H : Hp) : Same H H := fun _ _ h => h
theorem Same.trans {H H1 H2 : Hp} (a : Same H H1) (b : Same H1 H2) : Same H H2 := fun c o h => b c o (a c o h)
theorem Same.free {H H' : Hp} (e : Same H H') {l : Addr} (h : H' l = Option.none) : H l = Option.none := by
  cases q : H l with
  | none => rfl
  | some o =>
    rw [e l o q] at h
    cases h
theorem Same.seq {K : PySem.W.Frag} {H H' : Hp} {a : Addr} {xs : List V} (e : Same H H') (h : SqL K H a xs) : SqL K H' a xs := by
  rcases h with (h | ⟨o, h⟩) | h
  · exact .inl (.inl (e _ _ h))
  · exact .inl (.inr ⟨o, e _ _ h⟩)
  · exact .inr h
end L2
namespace L2
open PySem PySem.Spec PyProof.Rows
theorem zaW {prog : Program} {w : World} {A : Around} {R : Result → Shared → Prop} {s : Shared} {elt tg iter : Expr} {ifs : List Expr} {scope : Scope} {pos : Pos} {it acc : Value} {env : Env} (J : Nat → Shared → Prop)
    (turn : ∀ k s0, J k s0 → wpAny (model prog w) A (pyNext it) (fun r s1 => match r with
      | none => R (.ok .next) s1
      | some v => wpAny (model prog w) A (letOwnedTupleGo tg it v) (fun _ s2 => wpAny (model prog w) A (assign tg env v) (fun _ s3 =>
          wpAny (model prog w) A (forIn ifs true fun c r => if r = true then do let ok ← isTrue c env (eval c env); pure (ForInStep.yield ok) else pure (ForInStep.yield r)) (fun ok s4 =>
            if ok = true then wpAny (model prog w) A (eval elt env) (fun x s5 => wpAny (model prog w) A (call (.builtin "list.append") [acc, x]) (fun _ s6 => ∃ j, j < k ∧ J j s6) (fun _ _ => False) s5) (fun _ _ => False) s4
            else ∃ j, j < k ∧ J j s4) (fun _ _ => False) s3) (fun _ _ => False) s2) (fun _ _ => False) s1) (fun _ _ => False) s0)
    (k : Nat) (h : J k s) : codeAny (model prog w) A (.compLoop (.ListComp elt [⟨tg, iter, ifs, 0⟩] scope pos) 0 it acc env) R s := by
  refine codeAny_loop rfl J (fun k0 s0 hJ => ?_) k h
  show wpAny _ A ((compTurn (.ListComp elt [⟨tg, iter, ifs, 0⟩] scope pos) 0 it acc env).onRaise (fun x => do noteFrame x env; theTreesLotGoes x)) _ _ s0
  refine wpAny_noted ?_
  rw [compTurn_list]
  refine wpAny_bind (wpAny_standAt (wpAny_bind (wpAny_mono (turn k0 s0 hJ) (fun r s1 h1 => ?_) fun _ _ f => f.elim)))
  cases r with
  | none => exact wpAny_pure h1
  | some v =>
    refine wpAny_bind (wpAny_mono h1 (fun _ s2 h2 => wpAny_bind (wpAny_mono h2 (fun _ s3 h3 => wpAny_bind (wpAny_mono h3 (fun ok s4 h4 => ?_) fun _ _ f => f.elim)) fun _ _ f => f.elim)) fun _ _ f => f.elim)
    cases ok with
    | false => exact wpAny_pure ⟨rfl, h4⟩
    | true => exact wpAny_bind (wpAny_bind (wpAny_mono h4 (fun x s5 h5 => wpAny_bind (wpAny_mono h5 (fun _ s6 h6 => wpAny_pure (wpAny_pure ⟨rfl, h6⟩)) fun _ _ f => f.elim)) fun _ _ f => f.elim))
noncomputable def PTs (X : Cx) (ifs : List Expr) (t : TT) : Prop :=
  ∀ (pins : List (Addr × Obj)) (s : Shared) (σ : St) (H : Hp) (Q : Bool → Hp → Prop), Inv X pins σ H s → t σ H Q →
    wpAny (model X.prog X.w) X.A (forIn ifs true fun c r => if r = true then do let ok ← isTrue c X.env (eval c X.env); pure (ForInStep.yield ok) else pure (ForInStep.yield r)) (TP X pins σ Q) X.xe s
noncomputable def zcj : TT := fun _ H Q => Q true H
theorem uu {X : Cx} : PTs X [] zcj := fun _ _ _ H _ I h => wpAny_tests_nil ⟨H, I, h⟩
theorem Z4 {X : Cx} {c : Expr} {t : TT} (h : PT X c t) : PTs X [c] t := fun pins s σ H Q I hw => wpAny_tests_one (h pins s σ H Q I hw)
noncomputable def xv (X : Cx) (N : List Str) (scope : Scope) (cl : List (Str × Addr)) (C : Addr) (s : Shared) (H : Hp) (fp : List Addr) : Cx where
  prog := X.prog
  w := X.w
  K := X.K
  mg := X.mg
  base := X.base
  A := X.A
  N := N
  s₀ := s
  H₀ := H
  env := compEnvC scope cl C X.env
  outer := X.stack
  stack := X.stack
  ex := fp
  fn := fun _ => false
  calm := X.calm
  pn := []
  xe := fun _ _ => False
noncomputable def qU (n : Nat) (js : List Nat) (σ : St) : St := List.replicate n none ++ js.map fun j => (σ[j]?).join
structure LcOk (X : Cx) (N : List Str) (n : Nat) (js : List Nat) (scope : Scope) (cl : List (Str × Addr)) : Prop where
  clos : closureFor scope X.env = pure cl
  nocell : ∀ y ∈ scope.names, y.2 ≠ .cell
  kind : scope.kind = .function
  names : ∀ y ∈ scope.names, y.2 = .local → scope.names.lookup y.1 = some .local
  cells : ∀ x c, cl.lookup x = some c → X.env.cells.lookup x = some c
  has : ∀ x, ((relabel scope X.env).names.lookup x = some .cell ∨ (relabel scope X.env).names.lookup x = some .free) → ∃ c, cl.lookup x = some c
  len : n + js.length = N.length
  free : ∀ (i : Nat) (x : Str), N[n + i]? = some x → ∃ j c, js[i]? = some j ∧ X.N[j]? = some x ∧ (X.env.scope.names.lookup x = some .cell ∨ X.env.scope.names.lookup x = some .free) ∧
    ((relabel scope X.env).names.lookup x = some .cell ∨ (relabel scope X.env).names.lookup x = some .free) ∧ cl.lookup x = some c
section
variable {X : Cx} {pins : List (Addr × Obj)} {σ : St} {H : Hp} {s : Shared} {N : List Str} {n : Nat} {js : List Nat} {scope : Scope} {cl : List (Str × Addr)}
theorem LcOk.ok (L : LcOk X N n js scope cl) (I : Inv X pins σ H s) {fp : List Addr} (hf : ∀ b ∈ fp, FpOk X pins H b) (hlt : ∀ b ∈ fp, b < s.heap.objs.size) {C : Addr} (hC : s.heap.objs.size ≤ C) : (xv X N scope cl C s H fp).Ok where
  mod := I.ok.mod
  kind := L.kind
  glob := I.ok.glob
  blt := I.ok.blt
  above := hC
  inj := fun x y c h1 h2 => I.ok.inj x y c (L.cells x c h1) (L.cells y c h2)
  has := fun x hx => L.has x hx
  cab := fun x c hx _ => by cases hx
  hd := I.ok.hd
  frames := I.ok.frames
  stk := .inl rfl
  exf := fun b hb => ⟨Nat.ne_of_lt (Nat.lt_of_lt_of_le (hlt b hb) hC), fun x c e => (hf b hb).2.2.2.2.1 x c (L.cells x c e)⟩
  bs := I.bs
  bsz := Nat.le_trans I.ok.bsz I.sz
  noex := fun b o e hb => by
    rcases (hf b hb).2.2.2.1 with z | z
    · exact I.ok.noex b o e z
    · exact absurd (Nat.lt_of_lt_of_le (Heap.lt_size (I.ok.bs b o e).1) z) (Nat.lt_irrefl _)
  exfs := fun b hb hz => by
    rcases List.mem_cons.mp (I.stkSub b hz) with z | z
    · exact (hf b hb).2.1 z
    · exact (hf b hb).2.2.1 z
  funs := I.stack
  frf := I.stkFree
theorem JP {n : Nat} {js : List Nat} {σ : St} {i : Nat} {v : V} (h : (qU n js σ)[i]? = some (some v)) : ∃ k j, i = n + k ∧ js[k]? = some j ∧ σ[j]? = some (some v) := by
  unfold qU at h
  by_cases hi : i < n
  · rw [List.getElem?_append_left (by simpa using hi), List.getElem?_replicate] at h
    split at h <;> cases h
  · rw [List.getElem?_append_right (by simpa using hi), List.length_replicate, List.getElem?_map] at h
    cases e : js[i - n]? with
    | none => rw [e] at h; cases h
    | some j =>
      rw [e] at h
      refine ⟨i - n, j, by omega, e, ?_⟩
      cases e2 : σ[j]? with
      | none => rw [Option.map_some, e2] at h; cases h
      | some o =>
        rw [Option.map_some, e2] at h
        have h' : o = some v := Option.some.inj h
        rw [h']
theorem Inv.lc (L : LcOk X N n js scope cl) (I : Inv X pins σ H s) {fp : List Addr} (hf : ∀ b ∈ fp, FpOk X pins H b) (hlt : ∀ b ∈ fp, b < s.heap.objs.size) {D C : Addr} {h1 : Heap} {m : Str → Option Value} {tk : Nat}
    (hD : s.heap.objs.size ≤ D) (hC : s.heap.objs.size ≤ C) (hDC : D ≠ C) (hn : h1.Ns C m) (old : ∀ b o, s.heap.get? b = some o → h1.get? b = some o) {k : Nat} (hl : h1.get? D = some { cls := .type "list", data := .seq ([] : List Value).toArray k }) :
    Inv (xv X N scope cl C s H fp) [] (qU n js σ) (upd H D (.lst [])) { s with heap := h1, toks := tk } where
  ok := L.ok I hf hlt hC
  os := rfl
  bare := I.bare
  base := Un.laid old hD (I.hok.fresh hD)
  loc := by
    refine ⟨m, hn, fun i x v e1 e2 e3 => ?_⟩
    obtain ⟨k, j, rfl, ej, eσ⟩ := JP e2
    obtain ⟨j', c, ej', eN, kx, kr, ec⟩ := L.free k x e1
    rw [ej] at ej'
    cases ej'
    obtain ⟨mx, hmx, hl'⟩ := I.loc
    obtain ⟨u, r, lk⟩ := hl' j x v eN eσ (kx.elim (fun z => .inr (.inl z)) fun z => .inr (.inr z))
    refine ⟨u, r, .inr ⟨kr, c, ec, ?_⟩⟩
    have hcx := L.cells x c ec
    rcases lk with ⟨z, _⟩ | ⟨_, c', e', hc'⟩
    · have z' : X.env.scope.names.lookup x = some .local := z
      rcases kx with y | y <;> rw [y] at z' <;> cases z'
    · rw [hcx] at e'
      cases e'
      obtain ⟨o, ho, hd⟩ := hc'
      exact ⟨o, old _ _ ho, hd⟩
  cell := fun x c e => by
    obtain ⟨v, o, ho, hd⟩ := I.cell x c (L.cells x c e)
    exact ⟨v, o, old _ _ ho, hd⟩
  free := by
    show upd H D (.lst []) C = none
    rw [zm (Ne.symm hDC)]
    exact I.hok.fresh hC
  freeC := fun x c e => by
    obtain ⟨v, o, ho, hd⟩ := I.cell x c (L.cells x c e)
    rw [zm (Nat.ne_of_lt (Nat.lt_of_lt_of_le (Heap.lt_size ho) hD))]
    exact I.freeC x c (L.cells x c e)
  pin := fun p hp => absurd (show p ∈ ([] : List (Addr × Obj)) from hp) (by simp)
  hok := I.hok.laid old hD ⟨Nat.zero_le _, [], k, .nil, hl⟩
  len := by
    show (qU n js σ).length = N.length
    unfold qU
    rw [List.length_append, List.length_replicate, List.length_map]
    exact L.len
theorem Inv.unlc {fp : List Addr} {C : Addr} {σ' : St} {H' : Hp} {s' : Shared} {h' : Heap} (I : Inv X pins σ H s) (hf : ∀ b ∈ fp, FpOk X pins H b) (hC : s.heap.objs.size ≤ C) (I' : Inv (xv X N scope cl C s H fp) [] σ' H' s') (hs : Heap.SameBut C s'.heap h') :
    Inv X pins σ H' { s' with heap := h' } := by
  have nC : ∀ b o, s.heap.get? b = some o → b ≠ C := fun b o e => Nat.ne_of_lt (Nat.lt_of_lt_of_le (Heap.lt_size e) hC)
  have hfree : H' C = none := I'.free
  have u := I'.base
  refine I.call' (ch := fp) (s' := { s' with heap := h' }) I'.os ⟨fun b o e n hb hx => ?_, fun b o e n hb hx => ?_, u.free, fun b o e hx => ?_, u.tups, u.frzs, u.tbls⟩ (fun b ob e => ?_) I'.bare fun b hb => ⟨(hf b hb).2.2.2.1, (hf b hb).2.1, (hf b hb).2.2.2.2.1, (hf b hb).2.2.2.2.2⟩
  · exact (hs.2 b (nC b o e)).trans (u.keep b o e n hb hx)
  · obtain ⟨sl, q⟩ := u.slot b o e n hb hx
    exact ⟨sl, (hs.2 b (nC b o e)).trans q⟩
  · obtain ⟨o', q⟩ := u.there b o e hx
    exact ⟨o', (hs.2 b (nC b o e)).trans q⟩
  · refine (I'.hok b ob e).stay (fun c w' hc q => (hs.2 c ?_).trans q) (fun _ q => q) fun _ _ q => q
    rintro rfl
    rcases hc with rfl | hc
    · rw [hfree] at e
      cases e
    · rw [hfree] at hc
      cases hc
noncomputable def tLc (wi : TI) (n : Nat) (js : List Nat) (g : TG) (tt : TT) (te : TE) : TE := fun σ H Q => wi σ H fun J H1 => ∀ D, H1 D = none → ∃ W : Nat → Nat → St → Hp → Prop, (∃ m, W 0 m (qU n js σ) (upd H1 D (.lst []))) ∧ ∀ i m σ' H', W i m σ' H' →
  (J.stop i H' ∧ Q (.ref D) H') ∨ (J.go i H' ∧ ∃ Nx : St → Hp → Prop, (∀ σ2 H2, Nx σ2 H2 → ∃ m', m' < m ∧ W (i + 1) m' σ2 H2) ∧
    ∀ x H2, J.yld i H' x H2 → g x σ' H2 fun σ3 H3 => tt σ3 H3 fun ok H4 => if ok = true then te σ3 H4 fun y H5 => ∃ ys, H5 D = some (.lst ys) ∧ ys.length < sizeLine ∧ Nx σ3 (upd H5 D (.lst (ys ++ [y]))) else Nx σ3 H4)
theorem VZ {elt tg iter : Expr} {ifs : List Expr} {pos : Pos} {g : TG} {tt : TT} {te : TE} {it : Addr} {fp : List Addr} {tn : Nat → Heap → Prop} {J : It} {Q : V → Hp → Prop} {E : Value → Shared → Prop} {RR : Value → Addr → Result → Shared → Prop}
    (L : LcOk X N n js scope cl) (hc : X.calm = true) (I : Inv X pins σ H s) (T : Turn X.prog X.w X.K tg J fp it tn) (t0 : tn 0 s.heap) (hf : ∀ b ∈ fp, FpOk X pins H b)
    (hg : ∀ C s0 H0 fp0, PG (xv X N scope cl C s0 H0 fp0) tg g) (ht : ∀ C s0 H0 fp0, PTs (xv X N scope cl C s0 H0 fp0) ifs tt) (he : ∀ C s0 H0 fp0, PE (xv X N scope cl C s0 H0 fp0) elt te)
    (hw : ∀ D, H D = none → ∃ W : Nat → Nat → St → Hp → Prop, (∃ m, W 0 m (qU n js σ) (upd H D (.lst []))) ∧ ∀ i m σ' H', W i m σ' H' →
      (J.stop i H' ∧ Q (.ref D) H') ∨ (J.go i H' ∧ ∃ Nx : St → Hp → Prop, (∀ σ2 H2, Nx σ2 H2 → ∃ m', m' < m ∧ W (i + 1) m' σ2 H2) ∧
        ∀ x H2, J.yld i H' x H2 → g x σ' H2 fun σ3 H3 => tt σ3 H3 fun ok H4 => if ok = true then te σ3 H4 fun y H5 => ∃ ys, H5 D = some (.lst ys) ∧ ys.length < sizeLine ∧ Nx σ3 (upd H5 D (.lst (ys ++ [y]))) else Nx σ3 H4))
    (fin : ∀ D C σ' H' s', s.heap.objs.size ≤ C → Inv (xv X N scope cl C s H fp) [] σ' H' s' → Q (.ref D) H' → RR (.ref D) C (.ok .next) s') :
    wpAny (model X.prog X.w) X.A (newList []) (fun acc s1 => wpAny (model X.prog X.w) X.A (newFunctionEnv scope X.env.globals cl [] X.env.qual none .none (some X.env)) (fun cenv s2 =>
      codeAny (model X.prog X.w) X.A (.compStart (.ListComp elt [⟨tg, iter, ifs, 0⟩] scope pos) 0 (.ref it) acc { cenv with scope := relabel scope X.env }) (RR acc cenv.locals) s2) E s1) E s := by
  refine wpAny_newObj_type (wpAny_newFunctionEnv L.nocell (by intro y hy; simp at hy) (fun h1 hn1 hs1 => ?_) L.kind)
  dsimp only at hn1 hs1 ⊢
  generalize hG : s.heap.push { cls := .type "list", dict := none, data := .seq ([] : List Value).toArray } = G at hn1 hs1 ⊢
  have eC : G.objs.size = s.heap.objs.size + 1 := by rw [← hG, Heap.size_push]
  have hC : s.heap.objs.size ≤ G.objs.size := by rw [eC]; exact Nat.le_succ _
  have hDC : s.heap.objs.size ≠ G.objs.size := by rw [eC]; exact Nat.ne_of_lt (Nat.lt_succ_self _)
  have hlt : ∀ b ∈ fp, b < s.heap.objs.size := fun b hb => by
    obtain ⟨o, e, _⟩ := T.obj 0 _ t0 b hb
    exact Heap.lt_size e
  have old : ∀ b o, s.heap.get? b = some o → h1.get? b = some o := fun b o e => by
    have hb := Heap.lt_size e
    exact hs1.extBut b o (Nat.ne_of_lt (Nat.lt_of_lt_of_le hb hC)) (Heap.get?_push_of_some _ (hG ▸ Heap.get?_push_of_some _ e))
  have hl : h1.get? s.heap.objs.size = some { cls := .type "list", data := .seq ([] : List Value).toArray 0 } := hs1.extBut _ _ hDC (Heap.get?_push_of_some _ (hG ▸ Heap.get?_push_size _ rfl))
  have I1 : ∀ tk, Inv (xv X N scope cl G.objs.size s H fp) [] (qU n js σ) (upd H s.heap.objs.size (.lst [])) { s with heap := h1, toks := tk } := fun tk => Inv.lc L I hf hlt (Nat.le_refl _) hC hDC hn1 old hl
  have t1 : tn 0 h1 := T.keep _ _ _ t0 fun b _ o e => old b o e
  obtain ⟨W, ⟨m0, w0⟩, step⟩ := hw s.heap.objs.size (I.hok.fresh (Nat.le_refl _))
  have fr1 : ∀ b ∈ fp, upd H s.heap.objs.size (.lst []) b = none := fun b hb => by
    rw [zm (Nat.ne_of_lt (hlt b hb))]
    exact (hf b hb).1
  have fps : ∀ {H' : Hp}, (∀ b ∈ fp, H' b = none) → ∀ b ∈ fp, FpOk (xv X N scope cl G.objs.size s H fp) [] H' b := fun {H'} hn b hb => by
    refine ⟨hn b hb, Nat.ne_of_lt (Nat.lt_of_lt_of_le (hlt b hb) hC), fun hz => ?_, .inl hb, fun x c e => (hf b hb).2.2.2.2.1 x c (L.cells x c e), fun p hp => absurd (show p ∈ ([] : List (Addr × Obj)) from hp) (by simp)⟩
    rcases List.mem_cons.mp (I.stkSub b hz) with z | z
    · exact (hf b hb).2.1 z
    · exact (hf b hb).2.2.1 z
  have loop : ∀ s0 : Shared, s0 = { s with heap := h1, toks := s.toks + ([] : List (Str × Value)).length } →
      codeAny (model X.prog X.w) X.A (.compLoop (.ListComp elt [⟨tg, iter, ifs, 0⟩] scope pos) 0 (.ref it) (.ref s.heap.objs.size) (compEnvC scope cl G.objs.size X.env)) (RR (.ref s.heap.objs.size) G.objs.size) s0 := by
    rintro s0 rfl
    refine zaW (fun k s' => ∃ i σ' H', Inv (xv X N scope cl G.objs.size s H fp) [] σ' H' s' ∧ tn i s'.heap ∧ (∀ b ∈ fp, H' b = none) ∧ W i k σ' H') ?_ m0 ⟨0, _, _, I1 _, t1, fr1, w0⟩
    rintro k s3 ⟨i, σ3, H3, I3, t3, fr3, w3⟩
    rcases step i k σ3 H3 w3 with ⟨stop, qn⟩ | ⟨go, Nx, hN, body⟩
    · refine thn (T.done (xv X N scope cl G.objs.size s H fp) rfl rfl rfl hc i [] s3 σ3 H3 _ I3 (fps fr3) t3 stop) fun r s4 ⟨hr, I4⟩ => ?_
      subst hr
      exact fin _ _ σ3 H3 s4 hC I4 qn
    · refine thn (T.item (xv X N scope cl G.objs.size s H fp) rfl rfl rfl hc i [] s3 σ3 H3 _ I3 (fps fr3) t3 go) fun r s4 ⟨u, hr, h4⟩ => ?_
      subst hr
      refine thn h4 fun _ s5 ⟨x, H5, I5, r5, y5, t5, fr5⟩ => ?_
      have I5' := I5.pinned (fps fr5) (T.obj _ _ t5)
      refine thn (hg _ _ _ _ _ s5 σ3 H5 x u _ I5' r5 (body x H5 y5)) fun _ s6 ⟨σ6, H6, I6, q6⟩ => ?_
      have again : ∀ {σ7 : St} {H7 : Hp} {s7 : Shared}, Inv (xv X N scope cl G.objs.size s H fp) ([] ++ jw fp s5.heap) σ7 H7 s7 → Nx σ7 H7 →
          ∃ j, j < k ∧ ∃ i σ' H', Inv (xv X N scope cl G.objs.size s H fp) [] σ' H' s7 ∧ tn i s7.heap ∧ (∀ b ∈ fp, H' b = none) ∧ W i j σ' H' := fun {σ7 H7 s7} I7 n7 => by
        obtain ⟨m', hm, w7⟩ := hN σ7 H7 n7
        refine ⟨m', hm, i + 1, σ7, H7, I7.unpinned, T.keep _ _ _ t5 fun b hb o e => (I7.pin (b, o) (List.mem_append_right _ (List.mem_append_right _ (um hb e)))).1, fun b hb => ?_, w7⟩
        obtain ⟨o, e, _⟩ := T.obj _ _ t5 b hb
        exact (I7.pin (b, o) (List.mem_append_right _ (List.mem_append_right _ (um hb e)))).2.1
      refine thn (ht _ _ _ _ _ s6 σ6 H6 _ I6 q6) fun ok s7 ⟨H7, I7, q7⟩ => ?_
      cases ok with
      | false =>
        rw [if_neg (by decide)] at q7 ⊢
        exact again I7 q7
      | true =>
        rw [if_pos rfl] at q7 ⊢
        refine thn (he _ _ _ _ _ s7 σ6 H7 _ I7 q7) fun v s8 ⟨y, H8, I8, r8, ys, e8, z8, q8⟩ => ?_
        refine thn (vz _ s8 σ6 H8 (.ref s.heap.objs.size) [y] (.ref s.heap.objs.size) [v] (fun _ H9 => Nx σ6 H9) I8 rfl (.cons r8 .nil) ⟨_, ys, y, rfl, rfl, e8, z8, q8⟩) fun _ s9 ⟨_, H9, I9, _, q9⟩ => ?_
        exact again I9 q9
  exact codeAny_compStart_list (loop _ rfl) (T.self X.A 0 _ _ _ t1 (loop _ rfl))
theorem u6 {elt tg iter : Expr} {ifs : List Expr} {pos : Pos} {wi : TI} {g : TG} {tt : TT} {te : TE} (L : LcOk X N n js scope cl) (hc : X.calm = true) (hi : PI X tg iter wi)
    (hg : ∀ C s0 H0 fp0, PG (xv X N scope cl C s0 H0 fp0) tg g) (ht : ∀ C s0 H0 fp0, PTs (xv X N scope cl C s0 H0 fp0) ifs tt) (he : ∀ C s0 H0 fp0, PE (xv X N scope cl C s0 H0 fp0) elt te)
    (hs : ∀ x, foldedSetIterable iter X.env x = pure x := by intro _; rfl) : PE X (.ListComp elt [⟨tg, iter, ifs, 0⟩] scope pos) (tLc wi n js g tt te) := by
  intro pins s σ H Q I h
  rw [eval_ListComp]
  refine wpAny_comprehension_free (use := none) rfl hs L.clos L.kind L.names (thn (hi pins s σ H _ I h) fun v s1 h1 => thn h1 fun itv s2 h2 => ?_)
  obtain ⟨it, fp, tn, J, H2, e, I2, T, t2, f2, hw⟩ := h2
  subst e
  refine VZ (RR := fun acc C => compPost (model X.prog X.w) X.A X.xe none (EP X pins σ Q) acc C) L hc I2 T t2 f2 hg ht he hw ?_
  intro D C σ' H' s' hC I' q
  obtain ⟨m, hn, _⟩ := I'.loc
  exact ⟨m, hn, fun h' hs' => ⟨.ref D, H', I2.unlc f2 hC I' hs', rfl, q⟩⟩
theorem JQ {i : Nat} {x : Str} {elt tg iter : Expr} {ifs : List Expr} {pos pos' spos : Pos} {wi : TI} {g : TG} {tt : TT} {te : TE} (hN : X.N.Nodup) (hx : X.N[i]? = some x) (hk : X.env.scope.names.lookup x = some .local)
    (L : LcOk X N n js scope cl) (hc : X.calm = true) (hi : PI X tg iter wi)
    (hg : ∀ C s0 H0 fp0, PG (xv X N scope cl C s0 H0 fp0) tg g) (ht : ∀ C s0 H0 fp0, PTs (xv X N scope cl C s0 H0 fp0) ifs tt) (he : ∀ C s0 H0 fp0, PE (xv X N scope cl C s0 H0 fp0) elt te)
    (hsw : swapsWith (.ListComp elt [⟨tg, iter, ifs, 0⟩] scope pos) (some (.Name x pos')) spos.line X.env = pure true := by rfl)
    (hs : ∀ x, foldedSetIterable iter X.env x = pure x := by intro _; rfl) : PS X (.Assign [.Name x pos'] (.ListComp elt [⟨tg, iter, ifs, 0⟩] scope pos) spos) (Uh (tLc wi n js g tt te) (k9 i)) := by
  intro pins s σ H Dn I h
  rw [exec_Assign_Name_used _ _ _ _ hsw]
  refine wpAny_bind (wpAny_standAt (wpAny_bind ?_))
  show wpAny _ X.A (do let _ ← comprehension (.ListComp elt [⟨tg, iter, ifs, 0⟩] scope pos) scope X.env _ (newList []) false (eval iter X.env) (some (assign (.Name x pos') X.env))) _ _ s
  refine wpAny_bind (thn (wpAny_comprehension_free (use := some (assign (.Name x pos') X.env)) (Q := fun _ s' => SP X pins Dn .next s') rfl hs L.clos L.kind L.names (thn (hi pins s σ H _ I h) fun v s1 h1 => thn h1 fun itv s2 h2 => ?_)) fun _ s' hq => wpAny_pure (wpAny_pure hq))
  obtain ⟨it, fp, tn, J, H2, e, I2, T, t2, f2, hw⟩ := h2
  subst e
  refine VZ (Q := fun x H1 => k9 i x σ H1 Dn.nx) (RR := fun acc C => compPost (model X.prog X.w) X.A X.xe (some (assign (.Name x pos') X.env)) (fun _ s' => SP X pins Dn .next s') acc C) L hc I2 T t2 f2 hg ht he hw ?_
  intro D C σ' H' s' hC I' q
  obtain ⟨m, hn, _⟩ := I'.loc
  have I3 : Inv X pins σ H' s' := I2.unlc (h' := s'.heap) f2 hC I' (.refl ..)
  show wpAny _ X.A (assign (.Name x pos') X.env (.ref D)) _ X.xe s'
  refine wpAny_assign_Name (Yl (v := .ref D) I3 hN hx (.inl hk) rfl (fun s4 I4 hb => ?_) (.inr hk))
  obtain ⟨a, hsa, ha⟩ := hb
  have bl : ∀ b o, s2.heap.get? b = some o → b ≠ C := fun b o e => Nat.ne_of_lt (Nat.lt_of_lt_of_le (Heap.lt_size e) hC)
  have hL : C ≠ X.env.locals := fun z => absurd (Nat.lt_of_lt_of_le I2.lt (z ▸ hC)) (Nat.lt_irrefl _)
  have hcl : ∀ y c, X.env.cells.lookup y = some c → c ≠ C := fun y c e => by
    obtain ⟨v, o, ho, _⟩ := I2.cell y c e
    exact bl c o ho
  have hCa : C ≠ a := by
    rcases ha with rfl | ha
    · exact hL
    · exact Ne.symm (hcl _ _ ha)
  exact ⟨m, hn.sameBut hsa hCa, fun h' hs' => ⟨_, H', I4.turned (h' := h') (t' := s4.toks) (it := C) (fun b o hb e => (hs'.2 b hb).trans e) I'.free hL (.inr (Nat.le_trans I2.sz hC)) hcl (fun p hp => bl _ _ (I2.pin p hp).1), q⟩⟩
end
end L2
namespace L2
open PySem PySem.Spec PyProof.Rows
structure Cal (P : Program) (w : World) (K : PySem.W.Frag) (mg : Str → Option Value) (base : Heap) (k : Nat) (x : Str) (dvs : List V) (sp : Sp) : Prop where
  ex : ∃ (f : Addr) (fd : FuncData) (ps : List Str) (ds : List Value), FnOk P w K mg base CX0 k f fd ps sp ∧ mg x = some (.ref f) ∧ PySem.W.keepIn K (.ref f) = true ∧ Binds K fd ps ds ∧ Vals dvs ds
section
variable {X : Cx} {k : Nat} {sp : Sp} {dvs : List V} {x : Str} {p pos : Pos} {e : Expr} {es : List Expr} {t : TA}
theorem zj (c : Cal X.prog X.w X.K X.mg X.base k x dvs sp) (hr : Room k X.A) (hg : Gl X x) (ha : PA X (e :: es) t) (hdb : (x == ("__debug__" : Str)) = false := by decide)
    (he : starEach (e :: es) X.env = (false, eval e X.env) :: starEach es X.env := by rfl) (hpl : (backTo pos (starEach es X.env)).any (·.1) = false := by rfl) : PE X (.Call (.Name x p) (e :: es) [] pos) (Ze sp dvs E0 t) := by
  obtain ⟨f, fd, ps, ds, F, hm, hk, hb, hd⟩ := c.ex
  exact zaR F hr hg hm hk hb hd UD ha hdb he hpl
end
section
variable {X : Cx}
theorem zck : OpR X (compareOp .Is) (fun x y H Q => ∃ b, y = .bl b ∧ Q (.bl (decide (x = .bl b))) H) := by
  intro pins s σ H x y v u Q I rx ry h
  obtain ⟨b, rfl, q⟩ := h
  cases ry
  refine wpAny_is_plain ?_ (yK I q ?_)
  all_goals cases x <;> first
    | (obtain ⟨t, rfl⟩ := rx; rfl)
    | (cases rx; rfl)
    | (cases rx; rename_i c; cases c <;> cases b <;> rfl)
theorem V0 : OpR X (compareOp .IsNot) (fun x y H Q => ∃ b, y = .bl b ∧ Q (.bl (!decide (x = .bl b))) H) := by
  intro pins s σ H x y v u Q I rx ry h
  obtain ⟨b, rfl, q⟩ := h
  cases ry
  refine wpAny_isNot_plain ?_ (yK I q ?_)
  all_goals cases x <;> first
    | (obtain ⟨t, rfl⟩ := rx; rfl)
    | (cases rx; rfl)
    | (cases rx; rename_i c; cases c <;> cases b <;> rfl)
theorem Vs : xo X (.builtin "isinstance") (fun xs H Q => ∃ x n t b, xs = [x, .ty n] ∧ TyOf X.K H x t ∧ PySem.W.kitOne X.K t (.type n) = some b ∧ Q (.bl b) H) := by
  intro pins s σ H xs us Q I r h
  obtain ⟨x, n, t, b, rfl, ty, e, q⟩ := h
  obtain ⟨u, c, rfl, ru, rc⟩ := r.two
  cases rc
  exact QM I ru ty e fun tk => ⟨.bl b, H, I.tok tk, rfl, q⟩
end
mutual
noncomputable def Rep (K : PySem.W.Frag) (H : Hp) : PyData → V → Prop
  | .none, x => x = .non
  | .bool b, x => x = .bl b
  | .int i, x => x = .int i
  | .str z, x => x = .str z
  | .list ds, x => ∃ a xs, x = .ref a ∧ SqL K H a xs ∧ Reps K H ds xs
  | .tuple ds, x => ∃ a xs, x = .ref a ∧ SqT K H a xs ∧ Reps K H ds xs
  | .dict _, _ => False
noncomputable def Reps (K : PySem.W.Frag) (H : Hp) : List PyData → List V → Prop
  | [], xs => xs = []
  | d :: ds, xs => ∃ x r, xs = x :: r ∧ Rep K H d x ∧ Reps K H ds r
end
theorem SqL.same {K : PySem.W.Frag} {H H' : Hp} {a : Addr} {xs : List V} (e : Same H H') (h : SqL K H a xs) : SqL K H' a xs := e.seq h
theorem SqT.same {K : PySem.W.Frag} {H H' : Hp} {a : Addr} {xs : List V} (e : Same H H') (h : SqT K H a xs) : SqT K H' a xs := by
  rcases h with (h | ⟨o, h⟩) | h
  · exact .inl (.inl (e _ _ h))
  · exact .inl (.inr ⟨o, e _ _ h⟩)
  · exact .inr h
mutual
theorem Rep.same {K : PySem.W.Frag} {H H' : Hp} (e : Same H H') : ∀ (d : PyData) (x : V), Rep K H d x → Rep K H' d x
  | .none, _, h => h
  | .bool _, _, h => h
  | .int _, _, h => h
  | .str _, _, h => h
  | .list ds, x, h => by
    obtain ⟨a, xs, e1, h1, h2⟩ := h
    exact ⟨a, xs, e1, h1.same e, Reps.same e ds xs h2⟩
  | .tuple ds, x, h => by
    obtain ⟨a, xs, e1, h1, h2⟩ := h
    exact ⟨a, xs, e1, h1.same e, Reps.same e ds xs h2⟩
  | .dict _, _, h => h
theorem Reps.same {K : PySem.W.Frag} {H H' : Hp} (e : Same H H') : ∀ (ds : List PyData) (xs : List V), Reps K H ds xs → Reps K H' ds xs
  | [], _, h => h
  | d :: ds, xs, h => by
    obtain ⟨x, r, e1, h1, h2⟩ := h
    exact ⟨x, r, e1, Rep.same e d x h1, Reps.same e ds r h2⟩
end
theorem Reps.length {K : PySem.W.Frag} {H : Hp} : ∀ {ds : List PyData} {xs : List V}, Reps K H ds xs → ds.length = xs.length
  | [], xs, h => by
    cases (show xs = [] from h)
    rfl
  | d :: ds, _, h => by
    obtain ⟨x, r, rfl, _, h2⟩ := h
    rw [List.length_cons, List.length_cons, h2.length]
theorem Reps.get {K : PySem.W.Frag} {H : Hp} : ∀ {ds : List PyData} {xs : List V} (i : Nat) {x : V}, Reps K H ds xs → xs[i]? = some x → ∃ d, ds[i]? = some d ∧ Rep K H d x
  | [], _, i, x, h, e => by
    rw [show _ = _ from h] at e
    cases e
  | d :: ds, _, i, x, h, e => by
    obtain ⟨y, r, rfl, h1, h2⟩ := h
    cases i with
    | zero =>
      cases e
      exact ⟨d, rfl, h1⟩
    | succ i =>
      obtain ⟨d', e', h'⟩ := h2.get i (x := x) (by simpa using e)
      exact ⟨d', by simpa using e', h'⟩
theorem Reps.snoc {K : PySem.W.Frag} {H : Hp} : ∀ {ds : List PyData} {xs : List V} {d : PyData} {x : V}, Reps K H ds xs → Rep K H d x → Reps K H (ds ++ [d]) (xs ++ [x])
  | [], _, d, x, h, h' => by
    rw [show _ = _ from h]
    exact ⟨x, [], rfl, h', rfl⟩
  | d0 :: ds, _, d, x, h, h' => by
    obtain ⟨y, r, rfl, h1, h2⟩ := h
    exact ⟨y, r ++ [x], rfl, h1, h2.snoc h'⟩
mutual
theorem Rep.reads {X : Cx} {pins : List (Addr × Obj)} {σ : St} {H : Hp} {s : Shared} (I : Inv X pins σ H s) : ∀ (d : PyData) (x : V) (u : Value), Rep X.K H d x → RelV x u → ∃ as, Reads s.heap u d as
  | .none, x, u, h, r => by
    cases (show x = V.non from h)
    cases r
    exact ⟨_, .none⟩
  | .bool b, x, u, h, r => by
    cases (show x = V.bl b from h)
    cases r
    exact ⟨_, .bool b⟩
  | .int i, x, u, h, r => by
    cases (show x = V.int i from h)
    obtain ⟨t, rfl⟩ := r
    exact ⟨_, .int i t⟩
  | .str z, x, u, h, r => by
    cases (show x = V.str z from h)
    obtain ⟨t, rfl⟩ := r
    exact ⟨_, .str z t⟩
  | .list ds, x, u, h, r => by
    obtain ⟨a, xs, rfl, h1, h2⟩ := h
    cases r
    obtain ⟨its, rv, ⟨o, n, e, c, _, dt⟩, _⟩ := I.list h1
    obtain ⟨as, q⟩ := Reps.reads I ds xs its h2 rv
    exact ⟨_, .list e c dt (by simpa using q)⟩
  | .tuple ds, x, u, h, r => by
    obtain ⟨a, xs, rfl, h1, h2⟩ := h
    cases r
    obtain ⟨its, rv, ⟨o, e, c, n, dt⟩, _⟩ := I.tuple h1
    obtain ⟨as, q⟩ := Reps.reads I ds xs its h2 rv
    exact ⟨_, .tuple e c dt (by simpa using q)⟩
  | .dict _, _, _, h, _ => h.elim
theorem Reps.reads {X : Cx} {pins : List (Addr × Obj)} {σ : St} {H : Hp} {s : Shared} (I : Inv X pins σ H s) : ∀ (ds : List PyData) (xs : List V) (us : List Value), Reps X.K H ds xs → Vals xs us → ∃ as, ReadsAll s.heap us ds as
  | [], xs, us, h, r => by
    cases (show xs = [] from h)
    cases r
    exact ⟨_, .nil⟩
  | d :: ds, xs, us, h, r => by
    obtain ⟨x, xQ, rfl, h1, h2⟩ := h
    cases r with
    | cons r1 r2 =>
      obtain ⟨as, q⟩ := Rep.reads I d x _ h1 r1
      obtain ⟨bs, q2⟩ := Reps.reads I ds xQ _ h2 r2
      exact ⟨_, .cons q q2⟩
end
section
variable {X : Cx}
noncomputable def JR (K : PySem.W.Frag) : R2 := fun x y H Q => ∃ d e, Rep K H d x ∧ Rep K H e y ∧ SeqAt.shaped d = true ∧ SeqAt.shaped e = true ∧ Q (.bl (PyData.eqv d e)) H
noncomputable def JS (K : PySem.W.Frag) : R2 := fun x y H Q => ∃ d e, Rep K H d x ∧ Rep K H e y ∧ SeqAt.shaped d = true ∧ SeqAt.shaped e = true ∧ Q (.bl (!PyData.eqv d e)) H
theorem zcl (hu : X.A.units + 64 < cLine) : OpR X (compareOp .Eq) (JR X.K) := by
  intro pins s σ H x y v u Q I rx ry h
  obtain ⟨d, e, h1, h2, s1, s2, q⟩ := h
  obtain ⟨as, r1⟩ := Rep.reads I d x v h1 rx
  obtain ⟨bs, r2⟩ := Rep.reads I e y u h2 ry
  exact eq_dataH r1 r2 s1 s2 hu ⟨.bl _, H, I, rfl, q⟩
theorem zcm (hu : X.A.units + 64 < cLine) : OpR X (compareOp .NotEq) (JS X.K) := by
  intro pins s σ H x y v u Q I rx ry h
  obtain ⟨d, e, h1, h2, s1, s2, q⟩ := h
  obtain ⟨as, r1⟩ := Rep.reads I d x v h1 rx
  obtain ⟨bs, r2⟩ := Rep.reads I e y u h2 ry
  exact ne_dataH r1 r2 s1 s2 hu ⟨.bl _, H, I, rfl, q⟩
end
end L2
namespace L2
open PySem PySem.Spec PyProof.Rows
noncomputable def Xi : Expr → Bool
  | .Starred .. => false
  | _ => true
theorem YE {e : Expr} {es : List Expr} {env : Env} (h : Xi e = true) : starEach (e :: es) env = (false, eval e env) :: starEach es env := by
  cases e <;> first | rfl | cases h
structure QA (X : Cx) (es : List Expr) (t : TA) : Prop where
  pa : PA X es t
theorem qn {X : Cx} : QA X [] jz := ⟨zcc⟩
theorem qc {X : Cx} {e : Expr} {es : List Expr} {te : TE} {t : TA} (ha : PE X e te) (hr : QA X es t) (h : Xi e = true := by rfl) : QA X (e :: es) (kd te t) := ⟨zaQ ha hr.pa (YE h)⟩
theorem xr {X : Cx} {es : List Expr} {t : TA} {pos : Pos} (h : QA X es t) : PE X (.List es pos) (Z1 t) := Xb h.pa
theorem yD {X : Cx} {es : List Expr} {t : TA} {pos : Pos} {k : Nat} (h : QA X es t) : PE X (.Tuple es k pos) (JK t) := zcd h.pa
noncomputable def Sm (a : Int) : Prop := -1000000000000 ≤ a ∧ a ≤ 1000000000000
theorem Sm.mulL {a b : Int} (h : Sm a) : Z0 a b := .inl ⟨Int.lt_of_lt_of_le (by decide) h.1, Int.lt_of_le_of_lt h.2 (by decide)⟩
theorem Sm.mulR {a b : Int} (h : Sm b) : Z0 a b := .inr ⟨Int.lt_of_lt_of_le (by decide) h.1, Int.lt_of_le_of_lt h.2 (by decide)⟩
theorem zaX {a b : Int} (h1 : -1000000000000 ≤ a) (h2 : a ≤ 1000000000000) : Z0 a b := Sm.mulL ⟨h1, h2⟩
theorem JT {a b : Int} (h1 : -1000000000000 ≤ b) (h2 : b ≤ 1000000000000) : Z0 a b := Sm.mulR ⟨h1, h2⟩
theorem xG {H : Hp} {p : Addr} {o : HO} (hp : H p = none) : Same H (upd H p o) := fun b u e => by
  rw [zm (yU e hp)]
  exact e
theorem vH {H H' : Hp} {r : Addr} {o : HO} (hs : Same H H') (hr : H r = none) : Same H (upd H' r o) := fun b u e => by
  rw [zm (yU e hr)]
  exact hs b u e
noncomputable def Zg (n : Nat) (g : TG) (tb : TS) (D : Ends) (σ : St) (H : Hp) : Prop := ∃ W : Nat → Nat → St → Hp → Prop, (∃ m, W 0 m σ H) ∧ ∀ i m σ H, W i m σ H →
  ((Itr 0 n).stop i H ∧ D.nx σ H) ∨ ((Itr 0 n).go i H ∧ ∃ N : St → Hp → Prop, (∀ σ' H', N σ' H' → ∃ m', m' < m ∧ W (i + 1) m' σ' H') ∧ ∀ x H', (Itr 0 n).yld i H x H' → g x σ H' fun σ2 H2 => tb { D with nx := N, ct := N, bk := D.nx } σ2 H2)
theorem Zg.by {n : Nat} {g : TG} {tb : TS} {D : Ends} {σ : St} {H : Hp} (Pv : Nat → St → Hp → Prop) (h0 : Pv 0 σ H)
    (hs : ∀ i σ H, i < n → Pv i σ H → g (.int i) σ H fun σ2 H2 => tb { D with nx := Pv (i + 1), ct := Pv (i + 1), bk := D.nx } σ2 H2) (hd : ∀ σ H, Pv n σ H → D.nx σ H) : Zg n g tb D σ H :=
  QG (lo := 0) (n := n) Pv h0 (fun i σ H hi p => by rw [Int.zero_add]; exact hs i σ H hi p) hd
theorem Zg.run {n : Nat} {g : TG} {tb : TS} {D : Ends} {σ : St} {H : Hp} (Pv : Nat → St → Hp → Prop) (h0 : Pv 0 σ H)
    (hs : ∀ i σ H, i < n → Pv i σ H → ∀ R : St → Hp → Prop, (∀ σ' H', Pv (i + 1) σ' H' → R σ' H') → g (.int i) σ H fun σ2 H2 => tb { D with nx := R, ct := R, bk := D.nx } σ2 H2) (hd : ∀ σ H, Pv n σ H → D.nx σ H) : Zg n g tb D σ H :=
  Zg.by Pv h0 (fun i σ H hi p => hs i σ H hi p _ fun _ _ z => z) hd
noncomputable def Zh (K : PySem.W.Frag) (a : Addr) (g : TG) (tb : TS) (D : Ends) (σ : St) (H : Hp) : Prop := ∃ W : Nat → Nat → St → Hp → Prop, (∃ m, W 0 m σ H) ∧ ∀ i m σ H, W i m σ H →
  ((Itl K a).stop i H ∧ D.nx σ H) ∨ ((Itl K a).go i H ∧ ∃ N : St → Hp → Prop, (∀ σ' H', N σ' H' → ∃ m', m' < m ∧ W (i + 1) m' σ' H') ∧ ∀ x H', (Itl K a).yld i H x H' → g x σ H' fun σ2 H2 => tb { D with nx := N, ct := N, bk := D.nx } σ2 H2)
theorem Zh.by {K : PySem.W.Frag} {a : Addr} {xs : List V} {g : TG} {tb : TS} {D : Ends} {σ : St} {H : Hp} (Pv : Nat → St → Hp → Prop) (h0 : Pv 0 σ H) (hl : ∀ i σ H, i ≤ xs.length → Pv i σ H → SqL K H a xs)
    (hs : ∀ i x σ H, xs[i]? = some x → Pv i σ H → g x σ H fun σ2 H2 => tb { D with nx := Pv (i + 1), ct := Pv (i + 1), bk := D.nx } σ2 H2) (hd : ∀ σ H, Pv xs.length σ H → D.nx σ H) : Zh K a g tb D σ H :=
  JD Pv h0 hl hs hd
theorem Zh.run {K : PySem.W.Frag} {a : Addr} {xs : List V} {g : TG} {tb : TS} {D : Ends} {σ : St} {H : Hp} (Pv : Nat → St → Hp → Prop) (h0 : Pv 0 σ H) (hl : ∀ i σ H, i ≤ xs.length → Pv i σ H → SqL K H a xs)
    (hs : ∀ i x σ H, xs[i]? = some x → Pv i σ H → ∀ R : St → Hp → Prop, (∀ σ' H', Pv (i + 1) σ' H' → R σ' H') → g x σ H fun σ2 H2 => tb { D with nx := R, ct := R, bk := D.nx } σ2 H2) (hd : ∀ σ H, Pv xs.length σ H → D.nx σ H) : Zh K a g tb D σ H :=
  Zh.by Pv h0 hl (fun i x σ H hi p => hs i x σ H hi p _ fun _ _ z => z) hd
structure FunD (K : PySem.W.Frag) (x qual : Str) (st : Stmt) (ds : List Value) (f : Addr) (fd : FuncData) : Prop where
  ex : ∃ (oc : Value) (od : Option Addr) (kV doc pm : Value) (an : Option Addr) (cdv ct : Value) (osl : Array (Option Value)) (T : Addr) (oT : Obj) (n : Nat),
    fd = PySem.W.fnOf x qual (defArgs st) (defBody st) (defScope st) (.ref T) kV doc pm an cdv ct ∧ K.lookup f = some ⟨oc, od, .func fd, osl⟩ ∧ PySem.W.codeIn K cdv qual = true ∧ K.lookup T = some oT ∧ oT.data = .seq ds.toArray n
  kp : PySem.W.keepIn K (.ref f) = true
section
variable {P : Program} {w : World} {K : PySem.W.Frag} {mg : Str → Option Value} {base : Heap}
theorem FunD.ok {x qual : Str} {st : Stmt} {ds : List Value} {f : Addr} {fd : FuncData} {N ps : List Str} {k : Nat} {sp : Sp} (F : FunD K x qual st ds f fd) (S : FnScope N ps (defScope st)) (len : ∀ vs H Q E, sp vs H Q E → vs.length = ps.length)
    (hbody : ∀ (cdv : Value) (A : Around) (outer : List Env) (s : Shared) (H : Hp) (vs : List V) (Q : VK) (E : XK), Room k (A.deeper (envOfC qual (defScope st) s.heap.objs.size f cdv)) → sp vs H Q E →
      ∃ t, PSs (uF CX0 P w K mg base N qual (defScope st) f cdv A outer s H E).nox (defBody st) t ∧ t { nx := fun _ H' => Q .non H', rt := Q } (L2.start N vs) H) : FnOk P w K mg base CX0 (k + 1) f fd ps sp := by
  obtain ⟨oc, od, kV, doc, pm, an, cdv, ct, osl, T, oT, n, rfl, lk, hcd, _, _⟩ := F.ex
  refine K4 lk hcd S len fun A outer s H vs Q E hr hsp => ?_
  obtain ⟨t, h, q⟩ := hbody cdv A outer s H vs Q E hr hsp
  exact ⟨t, h.nox, q⟩
theorem FunD.binds {x qual : Str} {st : Stmt} {ds es : List Value} {f : Addr} {fd : FuncData} {ps : List Str} (F : FunD K x qual st ds f fd)
    (h : ∀ (T : Addr) (kV doc pm : Value) (an : Option Addr) (cdv ct : Value) (us : List Value), (us ++ es).length = ps.length →
      ∃ k, bindArgs (PySem.W.fnOf x qual (defArgs st) (defBody st) (defScope st) (.ref T) kV doc pm an cdv ct) ⟨us, []⟩ = seqItems? (PySem.W.fnOf x qual (defArgs st) (defBody st) (defScope st) (.ref T) kV doc pm an cdv ct).defaults >>= k ∧ k (some ds.toArray) = pure (ps.zip (us ++ es))) : Binds K fd ps es := by
  obtain ⟨oc, od, kV, doc, pm, an, cdv, ct, osl, T, oT, n, rfl, lk, hcd, hT, hd⟩ := F.ex
  intro s us hK hl
  obtain ⟨k, h1, h2⟩ := h T kV doc pm an cdv ct us hl
  exact .of_defaults rfl (hK _ _ hT) hd h1 h2
end
end L2
namespace L2
open PySem PySem.Spec PyProof.Rows
theorem qg {α : Type} {x : Str} {c : α} : ∀ {l : List (Str × α)}, l.lookup x = some c → (x, c) ∈ l
  | [], h => by cases h
  | (y, d) :: l, h => by
    rw [List.lookup_cons] at h
    cases e : x == y with
    | true =>
      rw [e] at h
      have h1 : x = y := by simpa using e
      have h2 : d = c := Option.some.inj h
      rw [h1, h2]
      exact List.mem_cons_self
    | false =>
      rw [e] at h
      exact List.mem_cons_of_mem _ (qg h)
noncomputable def Z5 (k : Option NameKind) : Bool := match k with
  | some .cell => true
  | some .free => true
  | _ => false
theorem V1 {k : Option NameKind} (h : Z5 k = true) : k = some .cell ∨ k = some .free := by
  unfold Z5 at h
  split at h
  · exact .inl rfl
  · exact .inr rfl
  · cases h
inductive CellsIn (big : List (Str × Addr)) : List (Str × Addr) → Prop
  | nil : CellsIn big []
  | cons {x : Str} {c : Addr} {l : List (Str × Addr)} : big.lookup x = some c → CellsIn big l → CellsIn big ((x, c) :: l)
theorem CellsIn.mem {big : List (Str × Addr)} {x : Str} {c : Addr} : ∀ {l : List (Str × Addr)}, CellsIn big l → (x, c) ∈ l → big.lookup x = some c
  | _, .nil, h => by cases h
  | _, .cons e r, h => by
    rcases List.mem_cons.mp h with z | z
    · cases z
      exact e
    · exact r.mem z
theorem qV {X : Cx} {N : List Str} {n : Nat} {js : List Nat} {scope : Scope} {cl : List (Str × Addr)} (clos : closureFor scope X.env = pure cl := by rfl) (nocell : (scope.names.all fun y => !(y.2 == .cell)) = true := by rfl) (kind : scope.kind = .function := by rfl)
    (names : (scope.names.all fun y => !(y.2 == .local) || scope.names.lookup y.1 == some .local) = true := by rfl) (cells : CellsIn X.env.cells cl := by repeat' first | exact CellsIn.nil | refine CellsIn.cons rfl ?_)
    (has : ((relabel scope X.env).names.all fun y => !(Z5 (some y.2)) || (cl.lookup y.1).isSome) = true := by rfl) (len : n + js.length = N.length := by rfl)
    (free : ((N.drop n).zip js).all (fun p => X.N[p.2]? == some p.1 && Z5 (X.env.scope.names.lookup p.1) && Z5 ((relabel scope X.env).names.lookup p.1) && (cl.lookup p.1).isSome) = true := by rfl) : LcOk X N n js scope cl where
  clos := clos
  nocell := fun y hy e => by
    have h := List.all_eq_true.mp nocell y hy
    rw [e] at h
    cases h
  kind := kind
  names := fun y hy e => by
    have h := List.all_eq_true.mp names y hy
    rw [e] at h
    simpa using h
  cells := fun x c h => cells.mem (qg h)
  has := fun x h => by
    have key : ∀ k, (relabel scope X.env).names.lookup x = some k → Z5 (some k) = true → ∃ c, cl.lookup x = some c := fun k e hk => by
      have h1 := List.all_eq_true.mp has (x, k) (qg e)
      rw [hk] at h1
      exact Option.isSome_iff_exists.mp (by simpa using h1)
    rcases h with h | h
    · exact key _ h rfl
    · exact key _ h rfl
  len := len
  free := fun i x h => by
    have hd : (N.drop n)[i]? = some x := by rw [List.getElem?_drop]; exact h
    have hi : i < (N.drop n).length := (List.getElem?_eq_some_iff.mp hd).1
    have hj : i < js.length := by rw [List.length_drop] at hi; omega
    have hz : ((N.drop n).zip js)[i]? = some (x, js[i]) := by
      rw [List.getElem?_zip_eq_some]
      exact ⟨hd, List.getElem?_eq_getElem hj⟩
    have h1 := List.all_eq_true.mp free (x, js[i]) (List.mem_of_getElem? hz)
    simp only [Bool.and_eq_true, beq_iff_eq] at h1
    obtain ⟨⟨⟨a1, a2⟩, a3⟩, a4⟩ := h1
    obtain ⟨c, hc⟩ := Option.isSome_iff_exists.mp a4
    exact ⟨js[i], c, List.getElem?_eq_getElem hj, a1, V1 a2, V1 a3, hc⟩
noncomputable def LcL (K : PySem.W.Frag) (a : Addr) (g : TG) (tt : TT) (te : TE) (σ0 : St) (H1 : Hp) (Q : VK) : Prop := ∀ D, H1 D = none → ∃ W : Nat → Nat → St → Hp → Prop, (∃ m, W 0 m σ0 (upd H1 D (.lst []))) ∧ ∀ i m σ' H', W i m σ' H' →
  ((Itl K a).stop i H' ∧ Q (.ref D) H') ∨ ((Itl K a).go i H' ∧ ∃ Nx : St → Hp → Prop, (∀ σ2 H2, Nx σ2 H2 → ∃ m', m' < m ∧ W (i + 1) m' σ2 H2) ∧
    ∀ x H2, (Itl K a).yld i H' x H2 → g x σ' H2 fun σ3 H3 => tt σ3 H3 fun ok H4 => if ok = true then te σ3 H4 fun y H5 => ∃ ys, H5 D = some (.lst ys) ∧ ys.length < sizeLine ∧ Nx σ3 (upd H5 D (.lst (ys ++ [y]))) else Nx σ3 H4)
theorem LcL.by {K : PySem.W.Frag} {a : Addr} {xs : List V} {g : TG} {tt : TT} {te : TE} {σ0 : St} {H1 : Hp} {Q : VK} (Pv : Addr → Nat → St → Hp → Prop) (h0 : ∀ D, H1 D = none → Pv D 0 σ0 (upd H1 D (.lst [])))
    (hl : ∀ D i σ H, H1 D = none → i ≤ xs.length → Pv D i σ H → SqL K H a xs)
    (hs : ∀ D i x σ H, H1 D = none → xs[i]? = some x → Pv D i σ H → g x σ H fun σ3 H3 => tt σ3 H3 fun ok H4 => if ok = true then te σ3 H4 fun y H5 => ∃ ys, H5 D = some (.lst ys) ∧ ys.length < sizeLine ∧ Pv D (i + 1) σ3 (upd H5 D (.lst (ys ++ [y]))) else Pv D (i + 1) σ3 H4)
    (hd : ∀ D σ H, H1 D = none → Pv D xs.length σ H → Q (.ref D) H) : LcL K a g tt te σ0 H1 Q := by
  intro D hD
  refine ⟨fun i m σ H => m = xs.length - i ∧ i ≤ xs.length ∧ Pv D i σ H, ⟨xs.length, by simp, Nat.zero_le _, h0 D hD⟩, ?_⟩
  rintro i m σ H ⟨rfl, hi, p⟩
  have q := hl D i σ H hD hi p
  by_cases hlt : i < xs.length
  · refine .inr ⟨⟨xs, xs[i], q, by simp [hlt]⟩, Pv D (i + 1), fun σ' H' p' => ⟨xs.length - (i + 1), by omega, rfl, hlt, p'⟩, fun x H' y => ?_⟩
    obtain ⟨e, y⟩ := y
    subst e
    exact hs D i x σ _ hD (y xs q) p
  · have e : i = xs.length := by omega
    subst e
    exact .inl ⟨⟨xs, q, Nat.le_refl _⟩, hd D σ H hD p⟩
noncomputable def LcR (n0 : Nat) (g : TG) (tt : TT) (te : TE) (σ0 : St) (H1 : Hp) (Q : VK) : Prop := ∀ D, H1 D = none → ∃ W : Nat → Nat → St → Hp → Prop, (∃ m, W 0 m σ0 (upd H1 D (.lst []))) ∧ ∀ i m σ' H', W i m σ' H' →
  ((Itr 0 n0).stop i H' ∧ Q (.ref D) H') ∨ ((Itr 0 n0).go i H' ∧ ∃ Nx : St → Hp → Prop, (∀ σ2 H2, Nx σ2 H2 → ∃ m', m' < m ∧ W (i + 1) m' σ2 H2) ∧
    ∀ x H2, (Itr 0 n0).yld i H' x H2 → g x σ' H2 fun σ3 H3 => tt σ3 H3 fun ok H4 => if ok = true then te σ3 H4 fun y H5 => ∃ ys, H5 D = some (.lst ys) ∧ ys.length < sizeLine ∧ Nx σ3 (upd H5 D (.lst (ys ++ [y]))) else Nx σ3 H4)
theorem LcR.by {n0 : Nat} {g : TG} {tt : TT} {te : TE} {σ0 : St} {H1 : Hp} {Q : VK} (Pv : Addr → Nat → St → Hp → Prop) (h0 : ∀ D, H1 D = none → Pv D 0 σ0 (upd H1 D (.lst [])))
    (hs : ∀ D i σ H, H1 D = none → i < n0 → Pv D i σ H → g (.int i) σ H fun σ3 H3 => tt σ3 H3 fun ok H4 => if ok = true then te σ3 H4 fun y H5 => ∃ ys, H5 D = some (.lst ys) ∧ ys.length < sizeLine ∧ Pv D (i + 1) σ3 (upd H5 D (.lst (ys ++ [y]))) else Pv D (i + 1) σ3 H4)
    (hd : ∀ D σ H, H1 D = none → Pv D n0 σ H → Q (.ref D) H) : LcR n0 g tt te σ0 H1 Q := by
  intro D hD
  refine ⟨fun i m σ H => m = n0 - i ∧ i ≤ n0 ∧ Pv D i σ H, ⟨n0, by simp, Nat.zero_le _, h0 D hD⟩, ?_⟩
  rintro i m σ H ⟨rfl, hi, p⟩
  by_cases hlt : i < n0
  · refine .inr ⟨hlt, Pv D (i + 1), fun σ' H' p' => ⟨n0 - (i + 1), by omega, rfl, hlt, p'⟩, fun x H' y => ?_⟩
    obtain ⟨e, y⟩ := y
    subst e y
    rw [Int.zero_add]
    exact hs D i σ _ hD hlt p
  · have e : i = n0 := by omega
    subst e
    exact .inl ⟨Nat.le_refl _, hd D σ H hD p⟩
end L2
namespace L2
open PySem PySem.Spec PyProof.Rows
noncomputable abbrev Cel := Str × Int
noncomputable abbrev Pict := List (List Cel)
noncomputable def yE (c : Cel) : PyData := .tuple [.str c.1, .int c.2]
noncomputable def zd9 (r : List Cel) : PyData := .list (r.map yE)
noncomputable def zea (p : Pict) : PyData := .list (p.map zd9)
noncomputable def okC (c : Cel) : Prop := PyData.strOk c.1 = true
structure IsPic (p : Pict) (w h : Nat) : Prop where
  hh : p.length = h
  ww : ∀ r ∈ p, r.length = w
  ok : ∀ r ∈ p, ∀ c ∈ r, okC c
  w1 : 1 ≤ w
  w2 : w ≤ 24
  h1 : 1 ≤ h
  h2 : h ≤ 12
theorem Reps.at {K : PySem.W.Frag} {H : Hp} : ∀ {ds : List PyData} {xs : List V} (i : Nat) {d : PyData}, Reps K H ds xs → ds[i]? = some d → ∃ x, xs[i]? = some x ∧ Rep K H d x
  | [], _, i, d, _, e => by cases e
  | d0 :: ds, _, i, d, h, e => by
    obtain ⟨y, r, rfl, h1, h2⟩ := h
    cases i with
    | zero =>
      cases e
      exact ⟨y, rfl, h1⟩
    | succ i =>
      obtain ⟨x, e', h'⟩ := h2.at i (d := d) (by simpa using e)
      exact ⟨x, by simpa using e', h'⟩
section
variable {K : PySem.W.Frag} {H : Hp}
theorem zaY (c d : Cel) : PyData.eqv (yE c) (yE d) = decide (c = d) := by
  obtain ⟨x, i⟩ := c
  obtain ⟨y, j⟩ := d
  by_cases h1 : x = y <;> by_cases h2 : i = j <;> simp [yE, PyData.eqv, PyData.eqvAll, h1, h2]
end
noncomputable def uG (H : Hp) : List (Int × Int) → List V → Prop
  | [], xs => xs = []
  | p :: l, xs => ∃ t r, xs = .ref t :: r ∧ H t = some (.tup [.int p.1, .int p.2]) ∧ uG H l r
theorem uG.same {H H' : Hp} (e : ∀ b xs, H b = some (.tup xs) → H' b = some (.tup xs)) : ∀ {l : List (Int × Int)} {xs : List V}, uG H l xs → uG H' l xs
  | [], _, h => h
  | p :: l, _, h => by
    obtain ⟨t, r, e1, h1, h2⟩ := h
    exact ⟨t, r, e1, e _ _ h1, h2.same e⟩
theorem uG.length {H : Hp} : ∀ {l : List (Int × Int)} {xs : List V}, uG H l xs → xs.length = l.length
  | [], _, h => by rw [show _ = [] from h]; rfl
  | p :: l, _, h => by
    obtain ⟨t, r, rfl, _, h2⟩ := h
    rw [List.length_cons, List.length_cons, h2.length]
theorem uG.snoc {H : Hp} {p : Int × Int} {t : Addr} (ht : H t = some (.tup [.int p.1, .int p.2])) : ∀ {l : List (Int × Int)} {xs : List V}, uG H l xs → uG H (l ++ [p]) (xs ++ [.ref t])
  | [], _, h => by
    rw [show _ = [] from h]
    exact ⟨t, [], rfl, ht, rfl⟩
  | q :: l, _, h => by
    obtain ⟨u, r, rfl, h1, h2⟩ := h
    exact ⟨u, r ++ [.ref t], rfl, h1, h2.snoc ht⟩
theorem uG.at {H : Hp} : ∀ {l : List (Int × Int)} {xs : List V} (i : Nat) {x : V}, uG H l xs → xs[i]? = some x → ∃ (t : Addr) (p : Int × Int), x = .ref t ∧ H t = some (.tup [.int p.1, .int p.2])
  | [], _, i, x, h, e => by
    rw [show _ = [] from h] at e
    cases e
  | p :: l, _, i, x, h, e => by
    obtain ⟨t, r, rfl, h1, h2⟩ := h
    cases i with
    | zero =>
      cases e
      exact ⟨t, p, rfl, h1⟩
    | succ i => exact h2.at i (by simpa using e)
noncomputable def jB (p : Pict) (i j : Nat) : Cel := (p.getD i []).getD j (Str.ofString "", 0)
theorem JU {p : Pict} {w h : Nat} (ip : IsPic p w h) {i j : Nat} (hi : i < h) (hj : j < w) : ∃ r, p[i]? = some r ∧ r.length = w ∧ r[j]? = some (jB p i j) ∧ okC (jB p i j) := by
  have hl : i < p.length := by rw [ip.hh]; exact hi
  have hm : p[i] ∈ p := List.getElem_mem hl
  have hw := ip.ww _ hm
  have hj' : j < p[i].length := by rw [hw]; exact hj
  have e : jB p i j = p[i][j] := by
    unfold jB
    have e1 : p.getD i [] = p[i] := by rw [List.getD_eq_getElem?_getD, List.getElem?_eq_getElem hl, Option.getD_some]
    rw [e1, List.getD_eq_getElem?_getD, List.getElem?_eq_getElem hj', Option.getD_some]
  refine ⟨p[i], List.getElem?_eq_getElem hl, hw, ?_, ?_⟩
  · rw [e, List.getElem?_eq_getElem hj']
  · rw [e]
    exact ip.ok _ hm _ (List.getElem_mem hj')
end L2
namespace L2
open PySem PySem.Spec PyProof.Rows
noncomputable def Bld (K : PySem.W.Frag) (H0 H : Hp) (av : List Addr) (r : Addr) (ds : List PyData) : Prop := ∃ G vs, Same H0 G ∧ Same G H ∧ (∀ b ∈ r :: av, G b = none) ∧ H r = some (.lst vs) ∧ Reps K G ds vs
section
variable {K : PySem.W.Frag} {H0 H H1 : Hp} {av : List Addr} {r t l : Addr} {ds es : List PyData} {d : PyData}
theorem Bld.new (hs : Same H0 H) (ha : ∀ b ∈ av, H0 b = none) (hr : H r = none) : Bld K H0 (upd H r (.lst [])) av r [] := by
  refine ⟨H0, [], fun _ _ e => e, vH hs (hs.free hr), fun b hb => ?_, zX, rfl⟩
  rcases List.mem_cons.mp hb with z | z
  · rw [z]
    exact hs.free hr
  · exact ha b z
theorem Bld.same (b : Bld K H0 H av r ds) (hs : Same H H1) : Bld K H0 H1 av r ds := by
  obtain ⟨G, vs, h1, h2, h3, h4, h5⟩ := b
  exact ⟨G, vs, h1, h2.trans hs, h3, hs _ _ h4, h5⟩
theorem Bld.base (b : Bld K H0 H av r ds) : Same H0 H := by
  obtain ⟨G, vs, h1, h2, _⟩ := b
  exact h1.trans h2
theorem Bld.lst (b : Bld K H0 H av r ds) : ∃ vs, H r = some (.lst vs) ∧ vs.length = ds.length := by
  obtain ⟨G, vs, h1, h2, h3, h4, h5⟩ := b
  exact ⟨vs, h4, h5.length.symm⟩
theorem Bld.tup {cs vs : List V} (b : Bld K H0 H av r ds) (hv : H r = some (.lst vs)) (ha : ∀ c ∈ av, ∃ o, H c = some o) (ht : H t = none) (hc : ∀ G, Reps K G es cs) :
    Bld K H0 (upd (upd H t (.tup cs)) r (.lst (vs ++ [.ref t]))) av r (ds ++ [.tuple es]) := by
  obtain ⟨G, ws, h1, h2, h3, h4, h5⟩ := b
  rw [hv] at h4
  cases h4
  have nr : t ≠ r := fun z => by rw [z, hv] at ht; cases ht
  have gt : G t = none := h2.free ht
  refine ⟨upd G t (.tup cs), _, h1.trans (xG gt), fun c o q => ?_, fun c hc' => ?_, zX, ?_⟩
  · by_cases z : c = t
    · rw [z] at q ⊢
      rw [zX] at q
      rw [zm nr, zX]
      exact q
    · rw [zm z] at q
      have nc : c ≠ r := fun y => by rw [y, h3 r List.mem_cons_self] at q; cases q
      rw [zm nc, zm z]
      exact h2 _ _ q
  · have nc : c ≠ t := fun y => by
      rcases List.mem_cons.mp hc' with z | z
      · exact nr (y.symm.trans z)
      · obtain ⟨o, q⟩ := ha c z
        rw [y, ht] at q
        cases q
    rw [zm nc]
    exact h3 c hc'
  · exact (Reps.same (xG gt) _ _ h5).snoc ⟨t, cs, rfl, SqT.of zX, hc _⟩
theorem Bld.row {vs : List V} {G : Hp} (h1 : Same H0 G) (h3 : ∀ b ∈ r :: av, G b = none) (h5 : Reps K G ds vs) (b : Bld K G H (r :: av) l es) (hv : H r = some (.lst vs)) (nl : ∀ c ∈ r :: av, c ≠ l) :
    Bld K H0 (upd H r (.lst (vs ++ [.ref l]))) av r (ds ++ [.list es]) := by
  obtain ⟨G2, us, k1, k2, k3, k4, k5⟩ := b
  have gl : G2 l = none := k3 l List.mem_cons_self
  have nr : l ≠ r := (nl r List.mem_cons_self).symm
  have sn : Same G2 (upd G2 l (.lst us)) := xG gl
  refine ⟨upd G2 l (.lst us), _, (h1.trans k1).trans sn, fun c o q => ?_, fun c hc => ?_, zX, ?_⟩
  · by_cases z : c = l
    · rw [z] at q ⊢
      rw [zX] at q
      rw [zm nr, k4]
      exact q
    · rw [zm z] at q
      have nc : c ≠ r := fun y => by rw [y, k3 r (List.mem_cons_of_mem _ List.mem_cons_self)] at q; cases q
      rw [zm nc]
      exact k2 _ _ q
  · rw [zm (nl c hc)]
    exact k3 c (List.mem_cons_of_mem _ hc)
  · exact (Reps.same (k1.trans sn) _ _ h5).snoc ⟨l, us, rfl, SqL.of zX, Reps.same sn _ _ k5⟩
theorem Bld.done (b : Bld K H0 H av r ds) : Rep K H (.list ds) (.ref r) := by
  obtain ⟨G, vs, h1, h2, h3, h4, h5⟩ := b
  exact ⟨r, vs, rfl, SqL.of h4, Reps.same h2 _ _ h5⟩
end
end L2
namespace L2
open PySem PySem.Spec PyProof.Rows
noncomputable def xL (K : PySem.W.Frag) (H0 H : Hp) (r : Addr) (p : Pict) : Prop := ∃ (G : Hp) (as : List Addr), Same H0 G ∧ Same G H ∧ (∀ a ∈ r :: as, G a = none) ∧ (r :: as).Nodup ∧ H r = some (.lst (as.map V.ref)) ∧ as.length = p.length ∧
  ∀ (i : Nat) row, p[i]? = some row → ∃ a us, as[i]? = some a ∧ H a = some (.lst us) ∧ Reps K G (row.map yE) us
section
variable {K : PySem.W.Frag} {H0 H H1 : Hp} {r b t : Addr} {p : Pict} {row : List Cel}
theorem xL.new (hs : Same H0 H) (hr : H r = none) : xL K H0 (upd H r (.lst [])) r [] := by
  refine ⟨H0, [], fun _ _ e => e, vH hs (hs.free hr), fun b hb => ?_, by simp, zX, rfl, fun i row q => by simp at q⟩
  rw [List.mem_singleton.mp hb]
  exact hs.free hr
theorem xL.same (g : xL K H0 H r p) (hs : Same H H1) : xL K H0 H1 r p := by
  obtain ⟨G, as, h1, h2, h3, h4, h5, h6, h7⟩ := g
  refine ⟨G, as, h1, h2.trans hs, h3, h4, hs _ _ h5, h6, fun i row q => ?_⟩
  obtain ⟨a, us, k1, k2, k3⟩ := h7 i row q
  exact ⟨a, us, k1, hs _ _ k2, k3⟩
theorem xL.base (g : xL K H0 H r p) : Same H0 H := by
  obtain ⟨G, as, h1, h2, _⟩ := g
  exact h1.trans h2
theorem xL.lst (g : xL K H0 H r p) : ∃ vs, H r = some (.lst vs) ∧ vs.length = p.length := by
  obtain ⟨G, as, h1, h2, h3, h4, h5, h6, h7⟩ := g
  exact ⟨_, h5, by rw [List.length_map]; exact h6⟩
theorem xL.put {ys vs : List V} {H2 : Hp} (g : xL K H0 H r p) (hv : H r = some (.lst vs)) (hy : Reps K H0 (row.map yE) ys) (hb : H b = none) (hs : Same H H2) (hb2 : H2 b = some (.lst ys)) : xL K H0 (upd H2 r (.lst (vs ++ [.ref b]))) r (p ++ [row]) := by
  obtain ⟨G, as, h1, h2, h3, h4, h5, h6, h7⟩ := g
  rw [hv] at h5
  have h5 : vs = as.map V.ref := by cases h5; rfl
  subst h5
  have nb : ∀ (c : Addr) (o : HO), H c = some o → c ≠ b := fun c o q z => by
    rw [z, hb] at q
    cases q
  have inH : ∀ c ∈ as, ∃ o, H c = some o := fun c hc => by
    obtain ⟨i, hi, e⟩ := List.getElem_of_mem hc
    obtain ⟨a, us, k1, k2, _⟩ := h7 i _ (List.getElem?_eq_getElem (h6 ▸ hi))
    rw [List.getElem?_eq_getElem hi] at k1
    cases k1
    exact ⟨_, e ▸ k2⟩
  have nr := nb r _ hv
  have nin : b ∉ as := fun z => by
    obtain ⟨o, q⟩ := inH b z
    exact nb b o q rfl
  obtain ⟨n1, n2⟩ := List.nodup_cons.mp h4
  refine ⟨G, as ++ [b], h1, fun c o q => ?_, fun c hc => ?_, ?_, by rw [List.map_append]; exact zX, by simp [h6], fun i y q => ?_⟩
  · have c1 : c ≠ r := fun z => by rw [z, h3 r List.mem_cons_self] at q; cases q
    rw [zm c1]
    exact hs _ _ (h2 _ _ q)
  · rcases List.mem_cons.mp hc with z | z
    · rw [z]
      exact h3 r List.mem_cons_self
    · rcases List.mem_append.mp z with z | z
      · exact h3 c (List.mem_cons_of_mem _ z)
      · rw [List.mem_singleton.mp z]
        exact h2.free hb
  · rw [List.nodup_cons]
    refine ⟨fun z => ?_, List.nodup_append.mpr ⟨n2, by simp, fun x hx y hy z => ?_⟩⟩
    · rcases List.mem_append.mp z with z | z
      · exact n1 z
      · exact nr (List.mem_singleton.mp z)
    · rw [z, List.mem_singleton.mp hy] at hx
      exact nin hx
  · by_cases hi : i < p.length
    · rw [List.getElem?_append_left hi] at q
      obtain ⟨a, us, k1, k2, k3⟩ := h7 i y q
      have ar : a ≠ r := fun z => n1 (z ▸ List.mem_of_getElem? k1)
      exact ⟨a, us, by rw [List.getElem?_append_left (h6 ▸ hi)]; exact k1, by rw [zm ar]; exact hs _ _ k2, k3⟩
    · have e : i = p.length := by
        have := (List.getElem?_eq_some_iff.mp q).1
        simp at this
        omega
      subst e
      simp only [List.getElem?_concat_length, Option.some.injEq] at q
      subst q
      exact ⟨b, ys, by rw [← h6]; simp, by rw [zm nr.symm]; exact hb2, Reps.same h1 _ _ hy⟩
theorem xL.push {ys vs : List V} (g : xL K H0 H r p) (hv : H r = some (.lst vs)) (hy : Reps K H0 (row.map yE) ys) (hb : H b = none) : xL K H0 (upd (upd H b (.lst ys)) r (.lst (vs ++ [.ref b]))) r (p ++ [row]) := g.put hv hy hb (xG hb) zX
theorem Reps.set {G : Hp} : ∀ {ds : List PyData} {xs : List V} (j : Nat) {d : PyData} {x : V}, Reps K G ds xs → Rep K G d x → Reps K G (ds.set j d) (xs.set j x)
  | [], _, j, d, x, h, _ => by
    rw [show _ = [] from h]
    rfl
  | d0 :: ds, _, j, d, x, h, h' => by
    obtain ⟨y, q, rfl, h1, h2⟩ := h
    cases j with
    | zero => exact ⟨x, q, rfl, h', h2⟩
    | succ j => exact ⟨y, _, rfl, h1, h2.set j h'⟩
theorem zaZ {c : Cel} {u : V} (h : Rep K H (yE c) u) : ∃ t, u = .ref t ∧ SqT K H t [.str c.1, .int c.2] := by
  obtain ⟨t, xs, rfl, h1, x1, q1, rfl, e1, x2, q2, rfl, e2, e3⟩ := h
  cases e1
  cases e2
  cases e3
  exact ⟨t, rfl, h1⟩
theorem xL.cell {i j : Nat} {c : Cel} (g : xL K H0 H r p) (hi : p[i]? = some row) (hj : row[j]? = some c) : ∃ vs a us t, H r = some (.lst vs) ∧ atI vs (i : Int) = some (.ref a) ∧ H a = some (.lst us) ∧ us.length = row.length ∧ atI us (j : Int) = some (.ref t) ∧ SqT K H t [.str c.1, .int c.2] ∧
    ∀ H2 t2 z n, Same H H2 → H2 t2 = none → xL K H0 (upd (upd H2 t2 (.tup [.str z, .int n])) a (.lst (us.set j (.ref t2)))) r (p.set i (row.set j (z, n))) := by
  obtain ⟨G, as, h1, h2, h3, h4, h5, h6, h7⟩ := g
  obtain ⟨a, us, k1, k2, k3⟩ := h7 i row hi
  obtain ⟨u, hu, ru⟩ := k3.at j (d := yE c) (by rw [List.getElem?_map, hj]; rfl)
  obtain ⟨t, rfl, ht⟩ := zaZ (Rep.same h2 _ _ ru)
  obtain ⟨n1, n2⟩ := List.nodup_cons.mp h4
  have am : a ∈ as := List.mem_of_getElem? k1
  have ar : a ≠ r := fun z => n1 (z ▸ am)
  refine ⟨_, a, us, t, h5, ut (by rw [List.getElem?_map, k1]; rfl), k2, by rw [← k3.length, List.length_map], ut hu, ht, fun H2 t2 z n hs ht2 => ?_⟩
  have nt : ∀ (b : Addr) (o : HO), H2 b = some o → b ≠ t2 := fun b o q y => by
    rw [y, ht2] at q
    cases q
  have gt : G t2 = none := (h2.trans hs).free ht2
  have sn : Same G (upd G t2 (.tup [.str z, .int n])) := xG gt
  refine ⟨upd G t2 (.tup [.str z, .int n]), as, h1.trans sn, fun b o q => ?_, fun b hb => ?_, h4, ?_, by rw [List.length_set]; exact h6, fun i' y q => ?_⟩
  · have na : b ≠ a := fun y => by
      rw [y] at q
      by_cases w : a = t2
      · exact nt a _ (hs _ _ k2) w
      · rw [zm w, h3 a (List.mem_cons_of_mem _ am)] at q
        cases q
    rw [zm na]
    by_cases w : b = t2
    · rw [w] at q ⊢
      rw [zX] at q ⊢
      exact q
    · rw [zm w] at q ⊢
      exact hs _ _ (h2 _ _ q)
  · have nb : b ≠ t2 := by
      rcases List.mem_cons.mp hb with y | y
      · rw [y]
        exact nt r _ (hs _ _ h5)
      · obtain ⟨k, hk, e⟩ := List.getElem_of_mem y
        obtain ⟨a', us', m1, m2, _⟩ := h7 k _ (List.getElem?_eq_getElem (h6 ▸ hk))
        rw [List.getElem?_eq_getElem hk] at m1
        cases m1
        rw [← e]
        exact nt _ _ (hs _ _ m2)
    rw [zm nb]
    exact h3 b hb
  · rw [zm ar.symm, zm (nt r _ (hs _ _ h5))]
    exact hs _ _ h5
  · by_cases e : i' = i
    · subst e
      have hl : i' < p.length := (List.getElem?_eq_some_iff.mp hi).1
      rw [List.getElem?_set_self hl] at q
      cases q
      refine ⟨a, _, k1, zX, ?_⟩
      rw [List.map_set]
      exact (Reps.same sn _ _ k3).set j ⟨t2, _, rfl, SqT.of zX, .str z, _, rfl, rfl, .int n, [], rfl, rfl, rfl⟩
    · rw [List.getElem?_set_ne (Ne.symm e)] at q
      obtain ⟨a', us', m1, m2, m3⟩ := h7 i' y q
      have na : a' ≠ a := fun w => by
        rw [w] at m1
        have l1 := (List.getElem?_eq_some_iff.mp m1)
        have l2 := (List.getElem?_eq_some_iff.mp k1)
        exact e ((List.getElem_inj n2).mp (l1.2.trans l2.2.symm))
      exact ⟨a', us', m1, by rw [zm na, zm (nt a' _ (hs _ _ m2))]; exact hs _ _ m2, Reps.same sn _ _ m3⟩
theorem xL.done (g : xL K H0 H r p) : Rep K H (zea p) (.ref r) := by
  obtain ⟨G, as, h1, h2, h3, h4, h5, h6, h7⟩ := g
  refine ⟨r, _, rfl, SqL.of h5, ?_⟩
  clear h5 h4 h3
  induction p generalizing as with
  | nil =>
    cases as with
    | nil => rfl
    | cons _ _ => cases h6
  | cons y p ih =>
    cases as with
    | nil => cases h6
    | cons a as =>
      obtain ⟨a', us, k1, k2, k3⟩ := h7 0 y rfl
      cases k1
      exact ⟨.ref a, as.map V.ref, rfl, ⟨a, us, rfl, SqL.of k2, Reps.same h2 _ _ k3⟩, ih as (by simpa using h6) fun i z q => h7 (i + 1) z (by simpa using q)⟩
end
end L2
namespace L2
open PySem PySem.Spec PyProof.Rows
noncomputable def rLo (K : PySem.W.Frag) : List V → Hp → VK → Prop := fun xs H Q => ∃ p ys, xs = [.ref p] ∧ (SqL K H p ys ∨ SqT K H p ys) ∧ ∀ l : Addr, H l = none → Q (.ref l) (upd H l (.lst ys))
section
variable {X : Cx} {K : PySem.W.Frag}
theorem K6 (h : X.K = K) : xo X (.type "list") (rLo K) := by
  subst h
  exact Xg
theorem yY (h : X.K = K) : IxR X (UB K) := by
  subst h
  exact zaV
end
end L2
namespace L2
open PySem PySem.Spec PyProof.Rows
noncomputable def zcn (K : PySem.W.Frag) : R2 := fun x y H Q => ∃ l b xs zs, x = .ref l ∧ y = .ref b ∧ SqL K H l xs ∧ SqL K H b zs ∧ xs.length + zs.length ≤ sizeLine ∧ ∀ p, H p = none → Q (.ref p) (upd H p (.lst (xs ++ zs)))
theorem QT {X : Cx} {K : PySem.W.Frag} (hK : X.K = K) : OpR X (binaryOp .Add) (zcn K) := by
  subst hK
  intro pins s σ H x y v u Q I rx ry h
  obtain ⟨l, b, xs, zs, rfl, rfl, hH, hB, hz, q⟩ := h
  cases rx
  cases ry
  obtain ⟨its, r, ⟨o1, n1, e1, c1, d1, m1⟩, z1⟩ := I.list hH
  obtain ⟨ita, r2, ⟨o2, n2, e2, c2, d2, m2⟩, z2⟩ := I.list hB
  obtain ⟨g1, g2, g3, g4⟩ := o1
  obtain ⟨f1, f2, f3, f4⟩ := o2
  simp only at c1 d1 m1 c2 d2 m2
  subst c1 d1 m1 c2 d2 m2
  have hs : its.length + ita.length ≤ sizeLine := by
    rw [← r.length, ← r2.length]
    exact hz
  have ea : its.toArray ++ ita.toArray = (its ++ ita).toArray := by simp
  refine concat_meets ⟨_, e1, rfl⟩ ⟨_, e2, rfl⟩ noFill_list_add seq_list_add F.slot_list_add F.entry_list_add (F.args_list_add_2 _ _) (list_addW l b its.toArray ita.toArray n1 n2 none none g4 f4 (by simpa using hs)) ⟨e1, e2, ?_⟩
  rw [ea]
  exact ⟨.ref _, _, I.lnew (t' := s.toks) (r.append r2) (by rw [List.length_append]; omega), rfl, q _ I.fresh⟩
theorem Reps.drop {K : PySem.W.Frag} {H : Hp} : ∀ {ds : List PyData} {xs : List V} (k : Nat), Reps K H ds xs → Reps K H (ds.drop k) (xs.drop k)
  | [], _, k, h => by
    rw [show _ = [] from h]
    simp only [List.drop_nil]
    rfl
  | d :: ds, _, k, h => by
    obtain ⟨y, q, rfl, h1, h2⟩ := h
    cases k with
    | zero => exact ⟨y, q, rfl, h1, h2⟩
    | succ k => exact h2.drop k
theorem Reps.take {K : PySem.W.Frag} {H : Hp} : ∀ {ds : List PyData} {xs : List V} (k : Nat), Reps K H ds xs → Reps K H (ds.take k) (xs.take k)
  | [], _, k, h => by
    rw [show _ = [] from h]
    simp only [List.take_nil]
    rfl
  | d :: ds, _, k, h => by
    obtain ⟨y, q, rfl, h1, h2⟩ := h
    cases k with
    | zero => rfl
    | succ k => exact ⟨y, _, rfl, h1, h2.take k⟩
theorem Reps.append {K : PySem.W.Frag} {H : Hp} : ∀ {ds es : List PyData} {xs ys : List V}, Reps K H ds xs → Reps K H es ys → Reps K H (ds ++ es) (xs ++ ys)
  | [], _, _, _, h, h' => by
    rw [show _ = [] from h]
    exact h'
  | d :: ds, _, _, _, h, h' => by
    obtain ⟨y, q, rfl, h1, h2⟩ := h
    exact ⟨y, _, rfl, h1, h2.append h'⟩
theorem IsPic.tail {p : Pict} {w h : Nat} (ip : IsPic p w h) (h2 : 1 < h) : IsPic (p.drop 1) w (h - 1) :=
  ⟨by rw [List.length_drop, ip.hh], fun r hr => ip.ww r (List.mem_of_mem_drop hr), fun r hr => ip.ok r (List.mem_of_mem_drop hr), ip.w1, ip.w2, by omega, by have := ip.h2; omega⟩
theorem IsPic.more {p : Pict} {w h : Nat} (ip : IsPic p w h) (h2 : h < 12) : IsPic (p ++ p.take 1) w (h + 1) := by
  have hm : ∀ r, r ∈ p ++ p.take 1 → r ∈ p := fun r hr => (List.mem_append.mp hr).elim id List.mem_of_mem_take
  have := ip.h1
  exact ⟨by rw [List.length_append, List.length_take, ip.hh]; omega, fun r hr => ip.ww r (hm r hr), fun r hr => ip.ok r (hm r hr), ip.w1, ip.w2, by omega, by omega⟩
theorem IsPic.rows {p : Pict} {w h w' : Nat} (g : List Cel → List Cel) (ip : IsPic p w h) (hg : ∀ r ∈ p, (g r).length = w') (hm : ∀ r c, c ∈ g r → c ∈ r) (h1 : 1 ≤ w') (h2 : w' ≤ 24) : IsPic (p.map g) w' h := by
  refine ⟨by rw [List.length_map, ip.hh], fun r hr => ?_, fun r hr c hc => ?_, h1, h2, ip.h1, ip.h2⟩
  · obtain ⟨y, hy, rfl⟩ := List.mem_map.mp hr
    exact hg y hy
  · obtain ⟨y, hy, rfl⟩ := List.mem_map.mp hr
    exact ip.ok y hy c (hm y c hc)
noncomputable def K7 (p : Pict) (h w : Nat) : Pict := (List.range w).map fun c => (List.range h).map fun i => jB p i c
theorem IsPic.turn {p : Pict} {w h : Nat} (ip : IsPic p w h) (hw : w ≤ 12) : IsPic (K7 p h w) h w := by
  refine ⟨by simp [K7], fun r hr => ?_, fun r hr c hc => ?_, ip.h1, by have := ip.h2; omega, ip.w1, hw⟩
  · obtain ⟨y, _, rfl⟩ := List.mem_map.mp hr
    simp
  · obtain ⟨y, hy, rfl⟩ := List.mem_map.mp hr
    obtain ⟨i, hi, rfl⟩ := List.mem_map.mp hc
    obtain ⟨_, _, _, _, ok⟩ := JU ip (List.mem_range.mp hi) (List.mem_range.mp hy)
    exact ok
end L2
namespace L2
open PySem PySem.Spec PyProof.Rows
noncomputable def Fly (h : Heap) (e C : Addr) (fp : List Addr) : Prop := ∃ oe vs, h.get? e = some oe ∧ (oe.cls = .ref C ∧ oe.dict = none) ∧ oe.data = .fields vs ∧ 1 < vs.size ∧
  ((vs[1]? = some .none ∧ fp = [e]) ∨ ∃ T oT ts, vs[1]? = some (.ref T) ∧ T ≠ e ∧ h.get? T = some oT ∧ oT.data = .fields ts ∧ ts[3]? = some .none ∧ fp = [e, T])
theorem Fly.mem {h : Heap} {e C : Addr} {fp : List Addr} (F : Fly h e C fp) : ∀ b ∈ fp, ∃ o vs, h.get? b = some o ∧ o.data = .fields vs := by
  obtain ⟨oe, vs, he, _, hd, _, ⟨_, rfl⟩ | ⟨T, oT, ts, _, _, hT, hdT, _, rfl⟩⟩ := F
  · intro b hb
    cases List.mem_singleton.mp hb
    exact ⟨oe, vs, he, hd⟩
  · intro b hb
    rcases List.mem_cons.mp hb with rfl | hb
    · exact ⟨oe, vs, he, hd⟩
    · cases List.mem_singleton.mp hb
      exact ⟨oT, ts, hT, hdT⟩
theorem Fly.self {h : Heap} {e C : Addr} {fp : List Addr} (F : Fly h e C fp) : e ∈ fp := by
  obtain ⟨_, _, _, _, _, _, ⟨_, rfl⟩ | ⟨_, _, _, _, _, _, _, _, rfl⟩⟩ := F <;> exact List.mem_cons_self
theorem Fly.keep {h h' : Heap} {e C : Addr} {fp : List Addr} (F : Fly h e C fp) (k : ∀ b ∈ fp, ∀ o, h.get? b = some o → h'.get? b = some o) : Fly h' e C fp := by
  have hs := F.self
  obtain ⟨oe, vs, he, hc, hd, hz, h1 | ⟨T, oT, ts, h1, h2, hT, hdT, h3, rfl⟩⟩ := F
  · exact ⟨oe, vs, k _ hs _ he, hc, hd, hz, .inl h1⟩
  · exact ⟨oe, vs, k _ hs _ he, hc, hd, hz, .inr ⟨T, oT, ts, h1, h2, k _ (by simp) _ hT, hdT, h3, rfl⟩⟩
section
variable {M : Model} {A : Around} {E : Value → Shared → Prop} {s : Shared}
structure Noted (fs fp : List Addr) (h h' : Heap) : Prop where
  keep : ∀ b o, h.get? b = some o → b ∉ fp → b ∉ fs → h'.get? b = some o
  slot : ∀ b o, h.get? b = some o → b ∉ fp → ∃ sl, h'.get? b = some { o with slots := sl }
  there : ∀ b o, h.get? b = some o → ∃ o', h'.get? b = some o'
theorem Noted.size {fs fp : List Addr} {h h' : Heap} (n : Noted fs fp h h') (hp : h'.objs.size < h.objs.size → False) : h.objs.size ≤ h'.objs.size := Nat.not_lt.mp hp
end
noncomputable def CX1 (P : Program) (w : World) : CXT := fun outer H s E ev s' => ∃ e C fp H', ev = .ref e ∧ Fly s'.heap e C fp ∧ (∀ b ∈ fp, s.heap.get? b = none ∧ H' b = none) ∧ s'.os = s.os ∧ AllBare s'.gens ∧ Un (frs outer) [] H H' s.heap s'.heap ∧ HOk P w H' s'.heap ∧ E (.ref C) none H'
noncomputable def FpX (X : Cx) (pins : List (Addr × Obj)) (H : Hp) (b : Addr) : Prop :=
  H b = none ∧ b ≠ X.env.locals ∧ b ∉ X.fs ∧ (b ∈ X.ex ∨ X.s₀.heap.get? b = none) ∧ (∀ x c, X.env.cells.lookup x = some c → c ≠ b) ∧ ∀ p ∈ X.pn ++ pins, p.1 ≠ b
theorem Inv.fpX {X : Cx} {pins : List (Addr × Obj)} {σ : St} {H H' : Hp} {s : Shared} {b : Addr} (I : Inv X pins σ H s) (hb : s.heap.get? b = none) (hn : H' b = none) : FpX X pins H' b := by
  have no : ∀ c o, s.heap.get? c = some o → c ≠ b := fun c o q z => by
    rw [z, hb] at q
    cases q
  refine ⟨hn, fun z => ?_, fun z => ?_, ?_, fun x c q => ?_, fun p hp => no _ _ (I.pin p hp).1⟩
  · obtain ⟨m, ⟨o, _, _, ho, _⟩, _⟩ := I.loc
    exact no _ _ ho z.symm
  · obtain ⟨_, o, ho, _⟩ := I.funs.mem z
    exact no _ _ ho rfl
  · by_cases hx : b ∈ X.ex
    · exact .inl hx
    · refine .inr ?_
      cases q : X.s₀.heap.get? b with
      | none => rfl
      | some o =>
        obtain ⟨o', q'⟩ := I.base.there b o q hx
        exact absurd rfl (no _ _ q')
  · obtain ⟨v, o, ho, _⟩ := I.cell x c q
    exact no _ _ ho
noncomputable def Up (X : Cx) (W : XK) (ev : Value) (s' : Shared) : Prop := ∃ pins σ H e C fp, ev = .ref e ∧ Inv X pins σ H s' ∧ Fly s'.heap e C fp ∧ (∀ b ∈ fp, FpX X pins H b) ∧ W (.ref C) none H
noncomputable def K8 (X : Cx) (W : XK) : Prop := ∀ ev s', Up X W ev s' → X.xe ev s'
theorem K8.passes {X : Cx} {W : XK} (L : K8 X W) : uE (CX1 X.prog X.w) X W := by
  rintro pins σ H s ev s' I ⟨e, C, fp, H', rfl, F, hf, os, bare, un, hok, hw⟩
  have I' : Inv X pins σ H' s' := I.call' (ch := []) os un hok bare fun b z => absurd z (by simp)
  exact L _ _ ⟨pins, σ, H', e, C, fp, rfl, I', F, fun b hb => I.fpX (H' := H') (hf b hb).1 (hf b hb).2, hw⟩
end L2
namespace L2
open PySem PySem.W PySem.Spec PySem.Calls PyProof.Rows
section
variable {prog : Program} {w : World} {A : Around} {E : Value → Shared → Prop} {s : Shared} {K : PySem.W.Frag} {e C : Addr} {oe : Obj}
end
end L2
namespace L2
open PySem PySem.W PySem.Spec PySem.Calls PyProof.Rows
structure XMake (K : PySem.W.Frag) (C : Addr) : Prop where
  ex : ∃ B nid iid bmB, ExcBaseFacts B nid iid bmB ∧ excIn K C bmB nid = true
theorem XMake.obj {K : PySem.W.Frag} {C : Addr} {h : Heap} (m : XMake K C) (X : K.In h) : ∃ B nid iid bmB, ExcBaseFacts B nid iid bmB ∧ ∃ bm ns nm qn bs hd sn sub ab col dd k0 k1 k2 k3 k5 mN,
    h.get? C = some (excClassObj nm qn C ns bs bm hd sn sub ab col dd k0 k1 k2 k3 k5 nid) ∧ h.Ns ns mN ∧ mN "__init__" = none ∧ OwnTail h bmB bm := by
  obtain ⟨B, nid, iid, bmB, F, z⟩ := m.ex
  refine ⟨B, nid, iid, bmB, F, ?_⟩
  unfold excIn at z
  split at z
  · rename_i d0 c0 s0 lk0
    split at z
    · rename_i A0 tl j0 j1 j2 j3 nm0 j5 hm0 hs0
      rw [Bool.and_eq_true, Bool.and_eq_true, Bool.and_eq_true, Bool.and_eq_true, Bool.and_eq_true] at z
      obtain ⟨⟨⟨⟨⟨z1, z2⟩, z3⟩, z4⟩, z5⟩, z6⟩ := z
      rw [beq_iff_eq.mp z1] at hm0
      rw [beq_iff_eq.mp z2] at hs0
      obtain ⟨n0, b0, r0, y0, q0, h0, t0, u0, a0, l0, del0⟩ := c0
      have e3 : del0 = false := by simpa using z3
      have e1 : r0 = .ref C :: tl := hm0
      have e2 : s0 = #[j0, j1, j2, j3, some (.builtin nid), j5] := by
        cases s0
        exact congrArg Array.mk hs0
      subst e1 e2 e3
      have g1 := Heap.Ns.of_isNs (isNs_of_in X z5)
      have g2 := nsMap_none_of_in X z5 (beq_iff_eq.mp z6)
      exact ⟨tl, y0, n0, q0, b0, h0, t0, u0, a0, l0, d0, j0, j1, j2, j3, j5, _, X _ _ lk0, g1, g2, tail_of_in X z4⟩
    · cases z
  · cases z
end L2
namespace L2
open PySem PySem.W PySem.Spec PySem.Calls PyProof.Rows
noncomputable abbrev Cx.suite (X : Cx) (pins : List (Addr × Obj)) (e : Addr) : Cx := { X with A := X.A.mark (some (.ref e)), calm := false, pn := X.pn ++ pins, xe := fun _ _ => False }
section
variable {X : Cx} {pins ps : List (Addr × Obj)} {σ : St} {H : Hp} {s : Shared} {Z : Value → Shared → Prop} {e : Addr}
theorem Inv.suite (I : Inv X pins σ H s) (e : Addr) (hz : (X.A.mark (some (.ref e))).frames = X.A.frames) : Inv (X.suite pins e) [] σ H s :=
  ⟨⟨I.ok.mod, I.ok.kind, I.ok.glob, I.ok.blt, I.ok.above, I.ok.inj, I.ok.has, I.ok.cab, fun z => (Bool.noConfusion z), hz.trans I.ok.frames, I.ok.stk, I.ok.exf, I.ok.bs, I.ok.bsz, I.ok.noex, I.ok.exfs, I.ok.funs, I.ok.frf⟩,
    I.os, I.bare, I.base, I.loc, I.cell, I.free, I.freeC, fun p hp => I.pin p (by simpa using hp), I.hok, I.len⟩
end
end L2
namespace L2
open PySem PySem.Spec PyProof.Rows
noncomputable def zdt (X : Cx) (N : List Str) (scope : Scope) (cl : List (Str × Addr)) (y : Str) (C : Addr) (s : Shared) (H : Hp) (fp : List Addr) : Cx :=
  { xv X N scope cl C s H fp with env := compEnvC scope ((y, C + 1) :: cl) C X.env, fn := fun x => x == y }
structure LcOkC (X : Cx) (N : List Str) (n : Nat) (js : List Nat) (scope : Scope) (cl : List (Str × Addr)) (y : Str) : Prop where
  clos : closureFor scope X.env = pure cl
  one : ∀ k, cellsFrom k scope.names cl = (y, k) :: cl
  onep : ∀ h : Heap, pushCells h scope.names = h.push { cls := .type "cell", data := .cell none }
  kind : scope.kind = .function
  names : ∀ y ∈ scope.names, y.2 = .local → scope.names.lookup y.1 = some .local
  cells : ∀ x c, cl.lookup x = some c → X.env.cells.lookup x = some c
  has : ∀ x, ((relabel scope X.env).names.lookup x = some .cell ∨ (relabel scope X.env).names.lookup x = some .free) → x = y ∨ ∃ c, cl.lookup x = some c
  len : n + js.length = N.length
  free : ∀ (i : Nat) (x : Str), N[n + i]? = some x → ∃ j c, js[i]? = some j ∧ X.N[j]? = some x ∧ (X.env.scope.names.lookup x = some .cell ∨ X.env.scope.names.lookup x = some .free) ∧
    ((relabel scope X.env).names.lookup x = some .cell ∨ (relabel scope X.env).names.lookup x = some .free) ∧ cl.lookup x = some c ∧ x ≠ y
theorem kK {cl : List (Str × Addr)} {y x : Str} {k c : Addr} (h : List.lookup x ((y, k) :: cl) = some c) : (x = y ∧ c = k) ∨ cl.lookup x = some c := by
  rw [List.lookup_cons] at h
  cases q : x == y with
  | true =>
    rw [q] at h
    exact .inl ⟨beq_iff_eq.mp q, (Option.some.inj h).symm⟩
  | false =>
    rw [q] at h
    exact .inr h
theorem JV {cl : List (Str × Addr)} {y x : Str} {k : Addr} (h : x ≠ y) : List.lookup x ((y, k) :: cl) = cl.lookup x := by
  rw [List.lookup_cons, beq_eq_false_iff_ne.mpr h]
theorem kL {cl : List (Str × Addr)} {y : Str} {k : Addr} : List.lookup y ((y, k) :: cl) = some k := by
  rw [List.lookup_cons, beq_self_eq_true]
section
variable {X : Cx} {pins : List (Addr × Obj)} {σ : St} {H : Hp} {s : Shared} {N : List Str} {n : Nat} {js : List Nat} {scope : Scope} {cl : List (Str × Addr)} {y : Str}
theorem LcOkC.far (L : LcOkC X N n js scope cl y) {fp : List Addr} {C b c : Addr} {x : Str} {z : Nat} (hf : ∀ b ∈ fp, FpOk X pins H b) (hlt : b < z) (hb : b ∈ fp) (hC : z ≤ C) (e : List.lookup x ((y, C + 1) :: cl) = some c) : c ≠ b := by
  rcases kK e with ⟨_, q⟩ | q
  · rw [q]
    exact Nat.ne_of_gt (Nat.lt_of_lt_of_le hlt (Nat.le_succ_of_le hC))
  · exact (hf b hb).2.2.2.2.1 x c (L.cells x c q)
theorem LcOkC.low (L : LcOkC X N n js scope cl y) (I : Inv X pins σ H s) {x : Str} {c : Addr} (e : cl.lookup x = some c) : c < s.heap.objs.size := by
  obtain ⟨v, o, ho, _⟩ := I.cell x c (L.cells x c e)
  exact Heap.lt_size ho
theorem LcOkC.ok (L : LcOkC X N n js scope cl y) (I : Inv X pins σ H s) {fp : List Addr} (hf : ∀ b ∈ fp, FpOk X pins H b) (hlt : ∀ b ∈ fp, b < s.heap.objs.size) {C : Addr} (hC : s.heap.objs.size ≤ C) : (zdt X N scope cl y C s H fp).Ok where
  mod := I.ok.mod
  kind := L.kind
  glob := I.ok.glob
  blt := I.ok.blt
  above := hC
  inj := fun x x' c h1 h2 => by
    rcases kK h1 with ⟨e1, q1⟩ | q1 <;> rcases kK h2 with ⟨e2, q2⟩ | q2
    · rw [e1, e2]
    · exact absurd (Nat.lt_of_lt_of_le (L.low I q2) hC) (by rw [q1]; exact Nat.not_lt.mpr (Nat.le_succ C))
    · exact absurd (Nat.lt_of_lt_of_le (L.low I q1) hC) (by rw [q2]; exact Nat.not_lt.mpr (Nat.le_succ C))
    · exact I.ok.inj x x' c (L.cells x c q1) (L.cells x' c q2)
  has := fun x hx => by
    rcases L.has x hx with e | ⟨c, e⟩
    · rw [e]
      exact ⟨_, kL⟩
    · by_cases q : x = y
      · rw [q]
        exact ⟨_, kL⟩
      · exact ⟨c, (JV q).trans e⟩
  cab := fun x c hx e => by
    have hx : x = y := beq_iff_eq.mp hx
    rw [hx] at e
    cases (kL.symm.trans e)
    exact Nat.le_succ_of_le hC
  hd := I.ok.hd
  frames := I.ok.frames
  stk := .inl rfl
  exf := fun b hb => ⟨Nat.ne_of_lt (Nat.lt_of_lt_of_le (hlt b hb) hC), fun x c e => L.far hf (hlt b hb) hb hC e⟩
  bs := I.bs
  bsz := Nat.le_trans I.ok.bsz I.sz
  noex := fun b o e hb => by
    rcases (hf b hb).2.2.2.1 with z | z
    · exact I.ok.noex b o e z
    · exact absurd (Nat.lt_of_lt_of_le (Heap.lt_size (I.ok.bs b o e).1) z) (Nat.lt_irrefl _)
  exfs := fun b hb hz => by
    rcases List.mem_cons.mp (I.stkSub b hz) with z | z
    · exact (hf b hb).2.1 z
    · exact (hf b hb).2.2.1 z
  funs := I.stack
  frf := I.stkFree
end
end L2
namespace L2
open PySem PySem.Spec PyProof.Rows
section
variable {κ : Type} [DecidableEq κ]
noncomputable def x6 (kvs : List (κ × V)) (k : κ) : Option V := (kvs.find? fun kv => decide (kv.1 = k)).map (·.2)
noncomputable def xR (kvs : List (κ × V)) (k : κ) (v : V) : List (κ × V) :=
  if (kvs.any fun kv => decide (kv.1 = k)) = true then kvs.map (fun kv => if kv.1 = k then (kv.1, v) else kv) else kvs ++ [(k, v)]
noncomputable def K9 (kvs : List (κ × V)) (k : κ) : List (κ × V) := kvs.filter fun kv => decide (kv.1 ≠ k)
theorem kM {p : κ × V} {r : List (κ × V)} {k : κ} (e : p.1 = k) : x6 (p :: r) k = some p.2 := by simp [x6, List.find?_cons, e]
theorem kN {p : κ × V} {r : List (κ × V)} {k : κ} (e : ¬ p.1 = k) : x6 (p :: r) k = x6 r k := by simp [x6, List.find?_cons, e]
theorem Xj (k : κ) : ∀ kvs : List (κ × V), (kvs.any fun kv => decide (kv.1 = k)) = (x6 kvs k).isSome
  | [] => rfl
  | p :: r => by
    rw [List.any_cons]
    by_cases e : p.1 = k
    · simp only [kM e, decide_eq_true e, Bool.true_or, Option.isSome_some]
    · rw [kN e, decide_eq_false e, Bool.false_or]; exact Xj k r
theorem qh (kvs : List (κ × V)) (k : κ) (v : V) : (xR kvs k v).length ≤ kvs.length + 1 := by
  unfold xR
  split
  · rw [List.length_map]; omega
  · rw [List.length_append, List.length_cons, List.length_nil]; omega
theorem xX.isSome_eq {o : Option V} {u : Option Value} (r : xX o u) : o.isSome = u.isSome := by
  cases o with
  | none => cases u with
    | none => rfl
    | some _ => exact (show False from r).elim
  | some _ => cases u with
    | none => exact (show False from r).elim
    | some _ => rfl
theorem xX.getD {o : Option V} {u : Option Value} {d : V} {d' : Value} (r : xX o u) (rd : RelV d d') : RelV (o.getD d) (u.getD d') := by
  cases o with
  | none => cases u with
    | none => exact rd
    | some _ => exact (show False from r).elim
  | some _ => cases u with
    | none => exact (show False from r).elim
    | some _ => exact r
theorem KV.val {kvs : List (κ × V)} {vs : List (κ × Value)} (r : KV kvs vs) (k : κ) : xX (x6 kvs k) (valueAt vs k) := by
  unfold KV at r
  induction r with
  | nil => exact True.intro
  | @cons p q ps qs h t ih =>
    obtain ⟨h1, h2⟩ := h
    by_cases e : p.1 = k
    · have e' : q.1 = k := h1.symm.trans e
      have b : valueAt (q :: qs) k = some q.2 := by simp [valueAt, List.find?_cons, e']
      rw [kM e, b]; exact h2
    · have e' : ¬ q.1 = k := fun z => e (h1.trans z)
      have b : valueAt (q :: qs) k = valueAt qs k := by simp [valueAt, List.find?_cons, e']
      rw [kN e, b]; exact ih
theorem KV.any {kvs : List (κ × V)} {vs : List (κ × Value)} (r : KV kvs vs) (k : κ) : (kvs.any fun kv => decide (kv.1 = k)) = vs.any fun kv => decide (kv.1 = k) := by
  unfold KV at r
  induction r with
  | nil => rfl
  | cons h t ih => rw [List.any_cons, List.any_cons, ih, h.1]
theorem KV.repl {kvs : List (κ × V)} {vs : List (κ × Value)} (r : KV kvs vs) (k : κ) {y : V} {u : Value} (ry : RelV y u) :
    KV (kvs.map fun kv => if kv.1 = k then (kv.1, y) else kv) (vs.map fun kv => if kv.1 = k then (kv.1, u) else kv) := by
  unfold KV at r ⊢
  induction r with
  | nil => exact .nil
  | @cons p q ps qs h t ih =>
    rw [List.map_cons, List.map_cons]
    refine .cons ?_ ih
    obtain ⟨h1, h2⟩ := h
    by_cases e : p.1 = k
    · rw [if_pos e, if_pos (h1.symm.trans e)]; exact ⟨h1, ry⟩
    · rw [if_neg e, if_neg (fun z => e (h1.trans z))]; exact ⟨h1, h2⟩
theorem KV.put {kvs : List (κ × V)} {vs : List (κ × Value)} (r : KV kvs vs) (k : κ) {y : V} {u : Value} (ry : RelV y u) : KV (xR kvs k y) (stored vs k u) := by
  unfold xR stored
  rw [r.any k]
  by_cases e : (vs.any fun kv => decide (kv.1 = k)) = true
  · rw [if_pos e, if_pos e]; exact r.repl k ry
  · rw [if_neg e, if_neg e]; exact Paired.snoc r ⟨rfl, ry⟩
theorem KV.drop {kvs : List (κ × V)} {vs : List (κ × Value)} (r : KV kvs vs) (k : κ) : KV (K9 kvs k) (without vs k) := by
  unfold KV at r ⊢
  unfold K9 without
  induction r with
  | nil => exact .nil
  | @cons p q ps qs h t ih =>
    obtain ⟨h1, h2⟩ := h
    rw [List.filter_cons, List.filter_cons]
    by_cases e : p.1 = k
    · have a : ¬ decide (p.1 ≠ k) = true := by simp [e]
      have b : ¬ decide (q.1 ≠ k) = true := by simp [h1.symm.trans e]
      rw [if_neg a, if_neg b]; exact ih
    · have e' : ¬ q.1 = k := fun z => e (h1.trans z)
      have a : decide (p.1 ≠ k) = true := by simp [e]
      have b : decide (q.1 ≠ k) = true := by simp [e']
      rw [if_pos a, if_pos b]; exact .cons ⟨h1, h2⟩ ih
theorem KV.keys {kvs : List (κ × V)} {vs : List (κ × Value)} (r : KV kvs vs) : kvs.map (·.1) = vs.map (·.1) := by
  unfold KV at r
  induction r with
  | nil => rfl
  | cons h t ih => rw [List.map_cons, List.map_cons, ih, h.1]
theorem KV.length {kvs : List (κ × V)} {vs : List (κ × Value)} (r : KV kvs vs) : kvs.length = vs.length := Paired.length r
end
theorem ke {P : Program} {w : World} {k : Key} {u : Value} (r : RelV (kV k) u) : (yT P w).is k u = true := by
  cases k with
  | inl i => obtain ⟨t, e⟩ := (show ∃ t, u = Value.int i t from r); subst e; exact Vp P w i t
  | inr x => obtain ⟨t, e⟩ := (show ∃ t, u = Value.str x t from r); subst e; exact Vq P w x t
theorem Yq {P : Program} {w : World} : ∀ {ks : List Key} {us : List Value}, Vals (ks.map kV) us → ItemsAre (yT P w) ks us
  | [], _, r => by rw [List.map_nil] at r; cases r; exact .nil
  | k :: ks, _, r => by
    rw [List.map_cons] at r
    cases r with
    | cons h t => exact .cons (ke h) (Yq t)
noncomputable abbrev KT (H : Hp) : List (List Key × V) → List (List Key × Addr × Value) → Prop := Paired fun p q => p.1 = q.1 ∧ H q.2.1 = some (.tup (p.1.map kV)) ∧ RelV p.2 q.2.2
theorem KT.val {H : Hp} {kvs : List (List Key × V)} {xs : List (List Key × Addr × Value)} (r : KT H kvs xs) (k : List Key) : xX (x6 kvs k) ((atKey xs k).map (·.2)) := by
  induction r with
  | nil => exact True.intro
  | @cons p q ps qs h t ih =>
    obtain ⟨h1, _, h2⟩ := h
    by_cases e : p.1 = k
    · have e' : q.1 = k := h1.symm.trans e
      have b : atKey (q :: qs) k = some q.2 := by simp [atKey, List.find?_cons, e']
      rw [kM e, b]; exact h2
    · have e' : ¬ q.1 = k := fun z => e (h1.trans z)
      have b : atKey (q :: qs) k = atKey qs k := by simp [atKey, List.find?_cons, e']
      rw [kN e, b]; exact ih
theorem KT.repl {H : Hp} {kvs : List (List Key × V)} {xs : List (List Key × Addr × Value)} (r : KT H kvs xs) (k : List Key) {y : V} {u : Value} (ry : RelV y u) :
    KT H (kvs.map fun kv => if kv.1 = k then (kv.1, y) else kv) (xs.map (putAt k u)) := by
  induction r with
  | nil => exact .nil
  | @cons p q ps qs h t ih =>
    rw [List.map_cons, List.map_cons]
    refine .cons ?_ ih
    obtain ⟨h1, h2, h3⟩ := h
    unfold putAt
    by_cases e : p.1 = k
    · rw [if_pos e, if_pos (h1.symm.trans e)]; exact ⟨h1, h2, ry⟩
    · rw [if_neg e, if_neg (fun z => e (h1.trans z))]; exact ⟨h1, h2, h3⟩
theorem KT.put {H : Hp} {kvs : List (List Key × V)} {xs : List (List Key × Addr × Value)} (r : KT H kvs xs) (k : List Key) {b : Addr} {y : V} {u : Value} (hb : H b = some (.tup (k.map kV))) (ry : RelV y u) :
    KT H (xR kvs k y) (storedH xs k b u) := by
  have e : (kvs.any fun kv => decide (kv.1 = k)) = (atKey xs k).isSome := by
    rw [Xj, (r.val k).isSome_eq, Option.isSome_map]
  unfold xR storedH
  rw [e]
  by_cases q : (atKey xs k).isSome = true
  · rw [if_pos q, if_pos q]; exact r.repl k ry
  · rw [if_neg q, if_neg q]; exact Paired.snoc r ⟨rfl, hb, ry⟩
theorem KT.keeps {H H' : Hp} {kvs : List (List Key × V)} {xs : List (List Key × Addr × Value)} (r : KT H kvs xs) (ht : ∀ b ys, H b = some (.tup ys) → H' b = some (.tup ys)) : KT H' kvs xs :=
  Paired.mapP r fun _ _ z => ⟨z.1, ht _ _ z.2.1, z.2.2⟩
section
variable {P : Program} {w : World} {H : Hp} {h : Heap} {a : Addr}
theorem zaa {u : HO} (ok : HOk P w H h) (e : Rd H a u) : xc P w H h a u := e.ok ok
theorem Zi {kvs : List (Key × V)} (ok : HOk P w H h) (e : Rd H a (.dK kvs)) : kvs.length ≤ sizeLine ∧ (a == sysModules) = false ∧ ∃ vs, KV kvs vs ∧ h.DictOf (yT P w) a vs :=
  show xc P w H h a (.dK kvs) from zaa ok e
theorem Zj {kvs : List (Key × V)} (ok : HOk P w H h) (e : H a = some (.dK kvs)) : kvs.length ≤ sizeLine ∧ (a == sysModules) = false ∧ ∃ vs, KV kvs vs ∧ h.DictOf (yT P w) a vs := Zi ok (.inl e)
theorem Zk {ks : List Key} (ok : HOk P w H h) (e : H a = some (.tup (ks.map kV))) : (tupleKind (yT P w)).is h ks a := by
  obtain ⟨_, its, r, o, h1, h2, n, h3⟩ := (show xc P w H h a (.tup (ks.map kV)) from ok a _ e)
  exact ⟨o, its.toArray, n, h1, h2, h3, by simpa using Yq r⟩
theorem Zl {kvs : List (List Key × V)} (ok : HOk P w H h) (e : Rd H a (.dT kvs)) : kvs.length ≤ sizeLine ∧ (a == sysModules) = false ∧
    ∃ xs, KT H kvs xs ∧ h.DictOfH (tupleKind (yT P w)) a xs := by
  obtain ⟨z, y, xs, r, o, es, ep, h1, h2, h3, h4, h5⟩ := (show xc P w H h a (.dT kvs) from zaa ok e)
  refine ⟨z, y, xs, r, o, es, ep, h1, h2, h3, h4, fun x hx => ?_, h5⟩
  have all : ∀ {l : List (List Key × V)} {m : List (List Key × Addr × Value)}, KT H l m → ∀ x ∈ m, (tupleKind (yT P w)).is h x.1 x.2.1 := by
    intro l m q
    induction q with
    | nil => intro x hx; exact nomatch hx
    | @cons p q ps qs hq t ih =>
      intro x hx
      rcases List.mem_cons.mp hx with e | hx
      · subst e
        exact Zk ok (by rw [← hq.1]; exact hq.2.1)
      · exact ih x hx
  exact all r x hx
theorem zdu {kvs : List (List Key × V)} (ok : HOk P w H h) (e : H a = some (.dT kvs)) : kvs.length ≤ sizeLine ∧ (a == sysModules) = false ∧
    ∃ xs, KT H kvs xs ∧ h.DictOfH (tupleKind (yT P w)) a xs := Zl ok (.inl e)
end
noncomputable def uH (H : Hp) (a : Addr) (y : V) (r : Option V) : Prop :=
  (∃ kvs k, Rd H a (.dK kvs) ∧ y = kV k ∧ r = x6 kvs k) ∨ ∃ kvs k b, Rd H a (.dT kvs) ∧ y = .ref b ∧ H b = some (.tup (k.map kV)) ∧ r = x6 kvs k
noncomputable def kO (H : Hp) (a : Addr) (y v : V) (H' : Hp) : Prop :=
  (∃ kvs k, H a = some (.dK kvs) ∧ y = kV k ∧ kvs.length < sizeLine ∧ H' = upd H a (.dK (xR kvs k v))) ∨
  ∃ kvs k b, H a = some (.dT kvs) ∧ y = .ref b ∧ H b = some (.tup (k.map kV)) ∧ kvs.length < sizeLine ∧ H' = upd H a (.dT (xR kvs k v))
theorem uH.k {H : Hp} {a : Addr} {kvs : List (Key × V)} {k : Key} (e : H a = some (.dK kvs)) : uH H a (kV k) (x6 kvs k) := .inl ⟨kvs, k, .inl e, rfl, rfl⟩
theorem uH.t {H : Hp} {a b : Addr} {kvs : List (List Key × V)} {k : List Key} (e : H a = some (.dT kvs)) (eb : H b = some (.tup (k.map kV))) : uH H a (.ref b) (x6 kvs k) := .inr ⟨kvs, k, b, .inl e, rfl, eb, rfl⟩
theorem kO.k {H : Hp} {a : Addr} {kvs : List (Key × V)} {k : Key} {v : V} (e : H a = some (.dK kvs)) (hl : kvs.length < sizeLine) : kO H a (kV k) v (upd H a (.dK (xR kvs k v))) := .inl ⟨kvs, k, e, rfl, hl, rfl⟩
theorem kO.t {H : Hp} {a b : Addr} {kvs : List (List Key × V)} {k : List Key} {v : V} (e : H a = some (.dT kvs)) (eb : H b = some (.tup (k.map kV))) (hl : kvs.length < sizeLine) :
    kO H a (.ref b) v (upd H a (.dT (xR kvs k v))) := .inr ⟨kvs, k, b, e, rfl, eb, hl, rfl⟩
section
variable {X : Cx} {pins : List (Addr × Obj)} {σ : St} {H : Hp} {s : Shared} {a : Addr} {y v : V} {u r : Value} {o : Option V} {A : Around} {E : Value → Shared → Prop}
theorem Inv.big (I : Inv X pins σ H s) : sysModules < s.heap.objs.size := by
  have h : mainGlobals < s.heap.objs.size := (I.mod.glob.keeps I.bk).lt
  exact Nat.lt_trans (by decide) h
theorem QU {Q : Value → Shared → Prop} (hu : A.units + 1 < cLine) (I : Inv X pins σ H s) (g : uH H a y (some v)) (ry : RelV y u) (h : ∀ w' s', Inv X pins σ H s' → RelV v w' → Q w' s') :
    wpAny (model X.prog X.w) A (getItem (.ref a) u) Q E s := by
  rcases g with ⟨kvs, k, e, ey, l⟩ | ⟨kvs, k, b, e, ey, eb, l⟩
  · subst ey
    obtain ⟨z, hd, vs, rel, dd⟩ := Zi I.hok e
    obtain ⟨w', hw, rw'⟩ := xX.some_of (v := v) (o := valueAt vs k) (by rw [l]; exact rel.val k)
    exact wpAny_getItem_of (ke ry) dd.mapOf hw (h w' _ (I.tok _) rw')
  · subst ey
    cases (show u = Value.ref b from ry)
    obtain ⟨z, hd, xs, rel, dd⟩ := Zl I.hok e
    obtain ⟨w', hw, rw'⟩ := xX.some_of (v := v) (o := (atKey xs k).map (·.2)) (by rw [l]; exact rel.val k)
    obtain ⟨p, hp, hp2⟩ := Option.map_eq_some_iff.mp hw
    refine wpAny_getItem_heap (tupleKind_room_in1 hu) (Zk I.hok eb) dd hp ?_
    rw [hp2]
    exact h w' _ (I.tok _) rw'
theorem kf {h' : Heap} {t' : Nat} {ob : HO} (I : Inv X pins σ H s) (mu : Mut (H a)) (hs : Heap.SameBut a s.heap h') (he : ∃ q, h'.get? a = some q) (new : xc X.prog X.w (upd H a ob) h' a ob) :
    Inv X pins σ (upd H a ob) { s with heap := h', toks := t' } :=
  I.write (x := a) (e := a) mu (.inl rfl) (fun b q hb z => (hs.2 b hb).trans z) he new
theorem Zm {P : Program} {w : World} {H' : Hp} {h' : Heap} {kvs : List (Key × V)} {vs : List (Key × Value)} (z : kvs.length ≤ sizeLine) (hd : (a == sysModules) = false) (rel : KV kvs vs) (dd : h'.DictOf (yT P w) a vs) :
    xc P w H' h' a (.dK kvs) := ⟨z, hd, vs, rel, dd⟩
theorem QV {H' : Hp} {Q : Unit → Shared → Prop} (hu : A.units + 1 < cLine) (I : Inv X pins σ H s) (g : kO H a y v H') (ry : RelV y u) (rv : RelV v r) (h : ∀ s', Inv X pins σ H' s' → Q () s') :
    wpAny (model X.prog X.w) A (setItem (.ref a) u r) Q E s := by
  rcases g with ⟨kvs, k, e, ey, l, eH⟩ | ⟨kvs, k, b, e, ey, eb, l, eH⟩
  · subst ey eH
    obtain ⟨z, hd, vs, rel, dd⟩ := Zj I.hok e
    have hz : vs.length ≤ sizeLine := by rw [← rel.length]; exact z
    have hl : (xR kvs k v).length ≤ sizeLine := by have := qh kvs k v; omega
    refine wpAny_setItem_pairs (hsz := hz) (ke ry) dd fun h' dd' hs => h _ ?_
    have he : ∃ q, h'.get? a = some q := let ⟨q, _, _, hq, _⟩ := dd'; ⟨q, hq⟩
    exact kf I (by rw [e]; exact True.intro) hs he (Zm hl hd (rel.put k rv) dd')
  · subst ey eH
    cases (show u = Value.ref b from ry)
    obtain ⟨z, hd, xs, rel, dd⟩ := zdu I.hok e
    have hz : xs.length ≤ sizeLine := by rw [← Paired.length rel]; exact z
    have hl : (xR kvs k v).length ≤ sizeLine := by have := qh kvs k v; omega
    refine wpAny_setItem_heap (hsz := hz) (tupleKind_room_in1 hu) (Zk I.hok eb) dd fun h' dd' hs => h _ ?_
    obtain ⟨q, es, ep, hq, h2, h3, h4, _, h5⟩ := dd'
    refine kf I (by rw [e]; exact True.intro) hs ⟨q, hq⟩ ⟨hl, hd, _, (rel.put k eb rv).keeps fun c ys ec => ?_, q, es, ep, hq, h2, h3, h4, h5⟩
    rw [zm (zdq ec e (fun z => nomatch z))]
    exact ec
end
section
variable {X : Cx} {pins : List (Addr × Obj)} {σ : St} {H : Hp} {s : Shared} {a : Addr} {kvs : List (Key × V)} {k : Key} {u : Value} {A : Around} {E : Value → Shared → Prop}
end
noncomputable def JW (i : Expr) : Prop := ∀ ov iv, subscripted i false ov iv = operate [ov, iv] (getItem ov iv)
theorem za0 {prog : Program} {w : World} {A : Around} {E : Value → Shared → Prop} {s : Shared} {env : Env} {value slice : Expr} {pos : Pos} {T id : String} {Q : Value → Shared → Prop}
    (hl : typeLookup (.type T) "__getitem__" = pure (some (.builtin id))) (hs : JW slice)
    (h : wpAny (model prog w) A (eval value env) (fun o s₁ => wpAny (model prog w) A (eval slice env) (fun i s₂ => s₂.TypeIs o T ∧ wpAny (model prog w) A (getItem o i) Q E s₂) E s₁) E s) :
    wpAny (model prog w) A (eval (.Subscript value slice pos) env) Q E s := by
  refine Subscript_ (wpAny_mono h (fun o s₁ h₁ => wpAny_mono h₁ (fun i s₂ h₂ => ?_) fun _ _ x => x) fun _ _ x => x)
  obtain ⟨hT, h₂⟩ := h₂
  unfold subscriptTail
  refine wpAny_bind ?_
  rw [getitemInPython_of_ne hT.not_modules]
  refine wpAny_bind (wpAny_specialOf hT hl ?_)
  have fin : wpAny (model prog w) A (subscripted slice false o i) (fun r s₃ => wpAny (model prog w) A (letTemporaryGo value o r >>= fun _ => pure r) Q E s₃) E s₂ := by
    rw [hs o i]
    exact wpAny_operating (wpAny_mono h₂ (fun r s₃ h₃ => wpAny_bind (wpAny_letTemporaryGo (wpAny_pure h₃))) fun _ _ x => x)
  first
    | exact wpAny_pure (wpAny_bind fin)
    | exact wpAny_bind (wpAny_pure (wpAny_bind fin))
    | exact wpAny_bind fin
theorem Vt {X : Cx} {pins : List (Addr × Obj)} {σ : St} {H : Hp} {s : Shared} {a : Addr} {y : V} {o : Option V} (I : Inv X pins σ H s) (g : uH H a y o) : s.TypeIs (.ref a) "dict" := by
  rcases g with ⟨kvs, k, e, _, _⟩ | ⟨kvs, k, b, e, _, _, _⟩
  · obtain ⟨_, _, vs, _, dd⟩ := Zi I.hok e
    exact dd.typeIs
  · obtain ⟨_, _, xs, _, dd⟩ := Zl I.hok e
    exact dd.typeIs
noncomputable def zdv (td ty : TE) : TE := fun σ H Q => td σ H fun x H1 => ty σ H1 fun y H2 => ∃ a v, x = .ref a ∧ uH H2 a y (some v) ∧ Q v H2
noncomputable def zdw (td ty tv : TE) : TS := fun D σ H => tv σ H fun v H1 => td σ H1 fun x H2 => ty σ H2 fun y H3 => ∃ a H4, x = .ref a ∧ kO H3 a y v H4 ∧ D.nx σ H4
section
variable {X : Cx} {o i e value : Expr} {pos pos' tpos : Pos} {td ty tv : TE}
theorem za1 (hu : X.A.units + 1 < cLine) (ho : PE X o td) (hi : PE X i ty) (hs : JW i) : PE X (.Subscript o i pos) (zdv td ty) := by
  intro pins s σ H Q I h
  refine za0 PySem.F.slot_dict_getitem.lookup hs (thn (ho pins s σ H _ I h) fun u s1 ⟨x, H1, I1, rx, q1⟩ => thn (hi pins s1 σ H1 _ I1 q1) fun iv s2 ⟨y, H2, I2, ry, a, v, ex, g, q2⟩ => ?_)
  subst ex
  obtain rfl : u = Value.ref a := rx
  exact ⟨Vt I2 g, QU hu I2 g ry fun w' s3 I3 rw' => ⟨v, H2, I3, rw', q2⟩⟩
theorem za2 (hu : X.A.units + 1 < cLine) (ho : PE X o td) (hi : PE X i ty) (hv : PE X value tv) (hs : swapsWith value (some (.Subscript o i pos')) pos.line X.env = pure false) :
    PS X (.Assign [.Subscript o i pos'] value pos) (zdw td ty tv) := by
  intro pins s σ H D I h
  refine wpAny_Assign_Subscript (thn (hv pins s σ H _ I h) fun r s1 ⟨v, H1, I1, rv, q1⟩ => thn (ho pins s1 σ H1 _ I1 q1) fun u s2 ⟨x, H2, I2, rx, q2⟩ => thn (hi pins s2 σ H2 _ I2 q2) fun iv s3 ⟨y, H3, I3, ry, a, H4, ex, g, q3⟩ => ?_) hs
  subst ex
  obtain rfl : u = Value.ref a := rx
  exact QV hu I3 g ry rv fun s4 I4 => ⟨σ, H4, I4, q3⟩
end
theorem JX {P : Program} {w : World} {H : Hp} (h : Heap) (hb : sysModules < h.objs.size) : xc P w H (h.push { cls := .type "dict", data := .dict #[] }) h.objs.size (.dK []) :=
  ⟨Nat.zero_le _, beq_eq_false_iff_ne.mpr (Ne.symm (Nat.ne_of_lt hb)), [], .nil, Heap.DictOf.new h⟩
section
variable {X : Cx} {pos : Pos}
end
noncomputable def Zn : List (TE × TE) → St → Hp → (List (V × V) → Hp → Prop) → Prop
  | [], _, H, Q => Q [] H
  | (tk, tv) :: r, σ, H, Q => tk σ H fun x H1 => tv σ H1 fun y H2 => Zn r σ H2 fun ps H3 => Q ((x, y) :: ps) H3
noncomputable abbrev VV : List (V × V) → List (Value × Value) → Prop := Paired fun p q => RelV p.1 q.1 ∧ RelV p.2 q.2
noncomputable def PPs (X : Cx) (pos : Pos) (keys : List (Option Expr)) (values : List Expr) (trs : List (TE × TE)) : Prop :=
  ∀ (pins : List (Addr × Obj)) (s : Shared) (σ : St) (H : Hp) (Q : List (V × V) → Hp → Prop), Inv X pins σ H s → Zn trs σ H Q →
    wpAny (model X.prog X.w) X.A (evalPairs (pairTrees keys values X.env pos)) (fun vs s' => ∃ ps H', Inv X pins σ H' s' ∧ VV ps vs ∧ Q ps H') X.xe s
theorem uv {X : Cx} {pos : Pos} : PPs X pos [] [] [] := fun pins s σ H Q I h => pairTrees_nil_walk ⟨[], H, I, .nil, h⟩
theorem yR {X : Cx} {pos : Pos} {k v : Expr} {ks : List (Option Expr)} {vs : List Expr} {tk tv : TE} {trs : List (TE × TE)} (hk : PE X k tk) (hv : PE X v tv) (hr : PPs X pos ks vs trs) :
    PPs X pos (some k :: ks) (v :: vs) ((tk, tv) :: trs) := fun pins s σ H Q I h =>
  pairTrees_cons_walk (thn (hk pins s σ H _ I h) fun u s1 ⟨x, H1, I1, rx, q1⟩ => thn (hv pins s1 σ H1 _ I1 q1) fun w2 s2 ⟨y, H2, I2, ry, q2⟩ =>
    thn (hr pins s2 σ H2 _ I2 q2) fun ws s3 ⟨ps, H3, I3, rel, q3⟩ => ⟨(x, y) :: ps, H3, I3, .cons ⟨rx, ry⟩ rel, q3⟩)
noncomputable def xV (kvs more : List (Key × V)) : List (Key × V) := more.foldl (fun acc kv => xR acc kv.1 kv.2) kvs
theorem KV.merge : ∀ {more : List (Key × V)} {rs : List (Key × Value)} {kvs : List (Key × V)} {vs : List (Key × Value)}, KV more rs → KV kvs vs → KV (xV kvs more) (merged vs rs) := by
  intro more rs kvs vs r
  unfold KV at r
  induction r generalizing kvs vs with
  | nil => intro q; exact q
  | @cons p q ps qs h t ih =>
    intro r0
    have e : KV (xR kvs p.1 p.2) (stored vs q.1 q.2) := by
      have := r0.put p.1 h.2
      rw [← h.1]; exact this
    exact ih e
theorem vq : ∀ (more kvs : List (Key × V)), (xV kvs more).length ≤ kvs.length + more.length
  | [], kvs => by show kvs.length ≤ kvs.length + 0; omega
  | p :: r, kvs => by
    have h1 := vq r (xR kvs p.1 p.2)
    have h2 := qh kvs p.1 p.2
    show (xV (xR kvs p.1 p.2) r).length ≤ _
    rw [List.length_cons]; omega
theorem Zo {P : Program} {w : World} : ∀ {kvs : List (Key × V)} {ws : List (Value × Value)}, VV (kvs.map fun kv => (kV kv.1, kv.2)) ws → ∃ rs, Carries (yT P w) ws rs ∧ KV kvs rs
  | [], _, r => by rw [List.map_nil] at r; cases r; exact ⟨[], True.intro, .nil⟩
  | p :: kvs, _, r => by
    rw [List.map_cons] at r
    cases r with
    | @cons a b as bs h t =>
      obtain ⟨rs, c, q⟩ := Zo (P := P) (w := w) t
      obtain ⟨b1, b2⟩ := b
      exact ⟨(p.1, b2) :: rs, ⟨ke h.1, rfl, c⟩, .cons ⟨rfl, h.2⟩ q⟩
noncomputable def zab (trs : List (TE × TE)) : TE := fun σ H Q => ∀ p, H p = none → Zn trs σ (upd H p (.dK [])) fun ps H2 => H2 p = some (.dK []) ∧ ∃ kvs : List (Key × V), ps = kvs.map (fun kv => (kV kv.1, kv.2)) ∧ kvs.length ≤ 15 ∧ Q (.ref p) (upd H2 p (.dK (xV [] kvs)))
theorem uw {X : Cx} {pos : Pos} {keys : List (Option Expr)} {values : List Expr} {trs : List (TE × TE)} (h : PPs X pos keys values trs) (hall : keys.all (·.isSome) = true) (hl : keys.length = values.length) (h0 : keys ≠ [])
    (h15 : keys.length ≤ 15) : PE X (.Dict keys values pos) (zab trs) := by
  intro pins s σ H Q I q
  have hn := I.hok.fresh (Nat.le_refl s.heap.objs.size)
  have I1 := I.laid (a := s.heap.objs.size) (o := .dK []) (h' := s.heap.push { cls := .type "dict", data := .dict #[] }) (t' := s.toks) (fun _ _ q => Heap.get?_push_of_some _ q) (Nat.le_refl _) (JX s.heap I.big)
  refine wpAny_Dict_walk (knd := yT X.prog X.w) hall hl h0 h15 (thn (h pins _ σ _ _ I1 (q _ hn)) fun ws s2 ⟨ps, H2, I2, rel, e, kvs, ep, lk, q2⟩ => ?_)
  subst ep
  obtain ⟨rs, c, rk⟩ := Zo (P := X.prog) (w := X.w) rel
  obtain ⟨z, hd, vs0, r0, dd⟩ := Zj I2.hok e
  cases r0
  refine ⟨rs, c, dd, fun h' dd' hs => ⟨.ref s.heap.objs.size, _, ?_, rfl, q2⟩⟩
  have hz : (xV [] kvs).length ≤ sizeLine := by
    have h1 := vq kvs []
    rw [List.length_nil] at h1
    rw [sizeLine_eq]; omega
  have he : ∃ q, h'.get? s.heap.objs.size = some q := let ⟨q, _, _, hq, _⟩ := dd'; ⟨q, hq⟩
  exact kf I2 (by rw [e]; exact True.intro) hs he (Zm hz hd (rk.merge .nil) dd')
structure M2 (X : Cx) (o : Expr) (m : Str) (apos : Pos) (e f : Expr) (cpos : Pos) : Prop where
  base : attributeBase o m X.env (eval o X.env) = eval o X.env
  few : ((backTo cpos (starEach [e, f] X.env)).all (fun x => !x.1) && (backToKw cpos (keywordEach [] X.env)).all (fun x => x.1.isSome)
    && decide (([e, f] : List Expr).length + ([] : List Keyword).length + (if ([] : List Keyword).isEmpty then 0 else 1) < 30)) = true
  line : (apos.endLine == cpos.line) = true
  trees : backTo cpos (starEach [e, f] X.env) = [(false, eval e X.env), (false, eval f X.env)]
noncomputable def IsD (H : Hp) (a : Addr) : Prop := (∃ kvs, Rd H a (.dK kvs)) ∨ ∃ kvs, Rd H a (.dT kvs)
theorem zco {X : Cx} {pins : List (Addr × Obj)} {σ : St} {H : Hp} {s : Shared} {a : Addr} (I : Inv X pins σ H s) (d : IsD H a) :
    s.TypeIs (.ref a) "dict" ∧ (∀ b, Value.ref a = .ref b → ∃ ob, s.heap.get? b = some ob ∧ ob.dict = none) ∧ (a == sysModules) = false := by
  rcases d with ⟨kvs, e⟩ | ⟨kvs, e⟩
  · obtain ⟨_, hd, vs, _, dd⟩ := Zi I.hok e
    refine ⟨dd.typeIs, fun b q => ?_, hd⟩
    cases q
    obtain ⟨ob, _, _, h1, h2, _⟩ := dd
    exact ⟨ob, h1, h2.2.1⟩
  · obtain ⟨_, hd, xs, _, dd⟩ := Zl I.hok e
    refine ⟨dd.typeIs, fun b q => ?_, hd⟩
    cases q
    obtain ⟨ob, _, _, h1, h2, _⟩ := dd
    exact ⟨ob, h1, h2.2.1⟩
section
variable {X : Cx} {pins : List (Addr × Obj)} {σ : St} {H : Hp} {s : Shared} {a : Addr} {y d : V} {u r : Value} {o : Option V} {A : Around} {E : Value → Shared → Prop}
theorem zcp {Q : Value → Shared → Prop} (hu : A.units + 1 < cLine) (I : Inv X pins σ H s) (g : uH H a y o) (ry : RelV y u) (rd : RelV d r) (h : ∀ w' s', Inv X pins σ H s' → RelV (o.getD d) w' → Q w' s') :
    wpAny (model X.prog X.w) A (call (.builtin "dict.get") [.ref a, u, r]) Q E s := by
  rcases g with ⟨kvs, k, e, ey, l⟩ | ⟨kvs, k, b, e, ey, eb, l⟩
  · subst ey
    obtain ⟨z, hd, vs, rel, dd⟩ := Zi I.hok e
    refine call_meetsIn PySem.F.slot_dict_get dd.typeIs PySem.F.entry_dict_get (PySem.F.args_dict_get_3 _ _ _) (meets_dict_get_default (yT X.prog X.w) a (ke ry) hd r) ⟨_, dd.mapOf, h _ _ (I.tok _) ?_⟩
    rw [l]
    exact (rel.val k).getD rd
  · subst ey
    cases (show u = Value.ref b from ry)
    obtain ⟨z, hd, xs, rel, dd⟩ := Zl I.hok e
    refine call_meetsIn PySem.F.slot_dict_get dd.typeIs PySem.F.entry_dict_get (PySem.F.args_dict_get_3 _ _ _) (meetsH_dict_get_default (tupleKind (yT X.prog X.w)) a b hd r) ⟨tupleKind_room_in1 hu, k, xs, Zk I.hok eb, dd, h _ _ (I.tok _) ?_⟩
    rw [l]
    exact (rel.val k).getD rd
end
noncomputable def QW (td ty tx : TE) : TE := fun σ H Q => td σ H fun x H1 => ∃ a, x = .ref a ∧ IsD H1 a ∧ ty σ H1 fun y H2 => tx σ H2 fun z H3 => ∃ o, uH H3 a y o ∧ Q (o.getD z) H3
section
variable {X : Cx} {o e f : Expr} {apos cpos : Pos} {td ty tx : TE}
theorem Xk (hu : X.A.units + 1 < cLine) (ho : PE X o td) (he : PE X e ty) (hf : PE X f tx) (m : M2 X o "get" apos e f cpos) : PE X (.Call (.Attribute o "get" apos) [e, f] [] cpos) (QW td ty tx) := by
  intro pins s σ H Q I h
  refine wpAny_Call_method m.base m.few m.line PySem.F.plainAttrs_dict PySem.F.slot_dict_get PySem.F.type_dict_get (thn (ho pins s σ H _ I h) fun u s1 ⟨x, H1, I1, rx, a, ex, d, q1⟩ => ?_)
  subst ex
  obtain rfl : u = Value.ref a := rx
  obtain ⟨t1, t2, _⟩ := zco I1 d
  refine ⟨t1, t2, ?_⟩
  rw [m.trees]
  refine Calls.callWith_builtin rfl (Calls.evalArgs_plain (Calls.spliced_cons (thn (he pins s1 σ H1 _ I1 q1) fun iv s2 ⟨y, H2, I2, ry, q2⟩ =>
    Calls.spliced_cons (thn (hf pins s2 σ H2 _ I2 q2) fun fv s3 ⟨z, H3, I3, rz, ov, g, q3⟩ => Calls.spliced_nil ?_))))
  exact zcp hu I3 g ry rz fun w' s4 I4 rw' => ⟨_, H3, I4, rw', q3⟩
end
section
variable {X : Cx} {pins : List (Addr × Obj)} {σ : St} {H : Hp} {s : Shared} {a : Addr} {kvs : List (Key × V)} {A : Around} {E : Value → Shared → Prop}
end
section
variable {X : Cx} {pins : List (Addr × Obj)} {σ : St} {H : Hp} {s : Shared} {a : Addr} {y : V} {u : Value} {A : Around} {E : Value → Shared → Prop}
end
end L2
namespace PySem
theorem YF : typeLookup (.type "list") "keys" = pure none := by rw [typeLookup_type, builtinLookup_eq_fast]; kernel_rfl
theorem qF : entryFor table "dict.update.loop" = some Builtin.«dict.update.loop» := entryFor_of_tree (by kernel_rfl)
theorem vd : plainId "dict.update.loop" = true := by decide +kernel
section
variable {prog : Program} {w : World} {A : Around} {E : Value → Shared → Prop} {s : Shared}
theorem Vu {a : Addr} {o : Obj} {xs : Array Value} {k : Nat} {Q : Option Value → Shared → Prop}
    (hx : s.heap.get? a = some o) (hc : o.cls = .type "list") (hdat : o.data = .seq xs k) (hd : o.dict = none) (hA : A.handled = none)
    (h : ∀ h' tk, (∀ b u, s.heap.get? b = some u → h'.get? b = some u) → Q none { s with heap := h', toks := tk }) :
    wpAny (model prog w) A (getAttr? (.ref a) "keys") Q E s := by
  obtain ⟨c, dct, dat, sl⟩ := o
  simp only at hc hdat hd
  subst hc hdat hd
  obtain ⟨hp, g, d, tk, os⟩ := s
  have hT : ∀ tk', (⟨hp, g, d, tk', os⟩ : Shared).TypeIs (.ref a) "list" := fun _ => ⟨_, hx, rfl⟩
  have f1 := sub_AttributeError
  have f3 := F.slot_list_getattribute.lookup
  have f4 := F.slot_list_getattribute.bind (.ref a)
  have f5 := am_list_getattr_none
  have hname : (["__module__", "__name__", "__qualname__", "__doc__", "__annotations__"] : List Str).contains "keys" = false := by decide
  unfold getAttr? getAttrBy? getAttrBy
  repeat (any_goals (first | assumption | exact hT _ | ((with_reducible show wpAny _ _ (call (Value.builtin "list.__getattribute__") _ _) _ _ _); refine call_meets F.slot_list_getattribute (hT _) am_entry_list_getattribute (F.args_list_getattribute_2 _ _) (meets_getattribute_miss_list a xs k sl "keys" _ YF hname (by decide)) ⟨hx, hA, fun h' tk' e hx' => ?_⟩) | wp_step))
  obtain ⟨t', u', he⟩ := hx'.there
  show wpAny _ _ (getattributeRaised _ _ _ _ _ _ _) _ _ _
  unfold getattributeRaised
  repeat (any_goals (first | assumption | wp_step))
  exact h _ _ hx'.keeps
end
section
variable {prog : Program} {w : World} {A : Around} {K : Type} [DecidableEq K] {knd : KeyKind prog w K}
theorem JY (hh : A.handled = none) {d it l : Addr} {items : Array Value} {r : Value} {R : Result → Shared → Prop} (hdi : d ≠ it) (hdl : d ≠ l) (hil : it ≠ l) :
    ∀ (more : List (K × Value)) (i : Nat) (s : Shared) (kvs : List (K × Value)), i + more.length = items.size → s.heap.DictOf knd d kvs → s.heap.IsListIter it l i → s.heap.IsList l items →
      (∀ (j : Nat) kv, more[j]? = some kv → ∃ t key, items[i + j]? = some (.ref t) ∧ t ≠ d ∧ t ≠ it ∧ PyProof.Rows.IsTup s.heap t #[key, kv.2] ∧ knd.is kv.1 key = true) → kvs.length + more.length ≤ sizeLine →
      (∀ h' tk, h'.DictOf knd d (merged kvs more) → (∀ c o, c ≠ d → c ≠ it → s.heap.get? c = some o → h'.get? c = some o) → R (.ok (.ret r)) { s with heap := h', toks := tk }) →
      codeAny (model prog w) A (.builtin "dict.update.loop" ⟨[.ref d, .ref it, rawInt i, r], []⟩) R s := by
  intro more
  induction more with
  | nil =>
    intro i s kvs hi hd hit hl hp hz hR
    refine codeAny_builtin qF ?_
    rw [Around.under_plainId vd _]
    show wpAny _ A.in1 (pyNext (.ref it) >>= _) _ _ _
    refine wpAny_bind (wpAny_pyNext_list_end (A := A.in1) hh hit hl (by simp at hi; simp; omega) fun h' eb => ?_)
    show wpAny _ _ (Builtin.Dict.addKeywords d [] >>= _) _ _ _
    exact wpAny_bind (wpAny_pure (wpAny_pure (hR h' s.toks (hd.extBut eb hdi) fun c o _ hc q => eb c o hc q)))
  | cons kv more ih =>
    intro i s kvs hi hd hit hl hp hz hR
    obtain ⟨t, key, hx, htd, hti, ⟨o, ho, hc, n, hdat⟩, hk⟩ := hp 0 kv rfl
    refine codeAny_builtin qF ?_
    rw [Around.under_plainId vd _]
    show wpAny _ A.in1 (pyNext (.ref it) >>= _) _ _ _
    refine wpAny_bind (wpAny_pyNext_list_item hit hl (x := .ref t) (by simpa using hx) fun h1 hit1 sb1 => ?_)
    have ho1 : h1.get? t = some o := (sb1.2 t hti).trans ho
    show wpAny _ _ (holding [.ref t] _ >>= _) _ _ _
    refine wpAny_bind (wpAny_holding ?_)
    refine wpAny_bind (wpAny_tryCatch ?_)
    unfold Builtin.Dict.pairItems
    refine wpAny_bind (wpAny_typeOf (T := "tuple") ⟨o, ho1, hc⟩ ?_)
    rw [if_pos (by decide)]
    refine wpAny_bind (wpAny_seqItems ho1 hdat ?_)
    refine wpAny_pure ?_
    show wpAny _ _ (holding [key, kv.2] (dictSet d key kv.2)) _ _ _
    refine wpAny_holding (wpAny_dictSet_pairs hk (hd.sameBut sb1 hdi) (fun h2 hd2 sb2 => ?_) (by simp at hz; omega))
    show wpAny _ _ (again (.builtin "dict.update.loop" ⟨[.ref d, .ref it, rawInt ((i : Int) + 1), r], []⟩)) _ _ _
    have ei : ((i : Int) + 1) = (((i + 1 : Nat)) : Int) := by omega
    rw [ei]
    have keep : ∀ c o, c ≠ d → c ≠ it → s.heap.get? c = some o → h2.get? c = some o := fun c o h3 h4 q => (sb2.2 c h3).trans ((sb1.2 c h4).trans q)
    refine wpAny_pure ⟨plainId_quiet vd _, ih (i + 1) _ (stored kvs kv.1 kv.2) (by simp at hi; omega) hd2 ?_ ?_ (fun j kv' hj => ?_) ?_ fun h3 tk hd3 k3 => ?_⟩
    · obtain ⟨oi, hoi, r1⟩ := hit1
      exact ⟨oi, (sb2.2 it (Ne.symm hdi)).trans hoi, r1⟩
    · obtain ⟨ol, hol, r1⟩ := hl
      exact ⟨ol, keep l ol (Ne.symm hdl) (Ne.symm hil) hol, r1⟩
    · obtain ⟨t', key', h1', h2', h3', ⟨o', ho', r'⟩, h5'⟩ := hp (j + 1) kv' (by simpa using hj)
      refine ⟨t', key', ?_, h2', h3', ⟨o', keep t' o' h2' h3' ho', r'⟩, h5'⟩
      rw [← h1']
      congr 1
      omega
    · have := stored_length_le kvs kv.1 kv.2
      simp at hz
      omega
    · exact hR h3 tk hd3 fun c o h4 h5 q => k3 c o h4 h5 (keep c o h4 h5 q)
theorem JZ {E : Value → Shared → Prop} {s : Shared} (hh : A.handled = none) {l : Addr} {o : Obj} {items : Array Value} {n : Nat} {Q : Value → Shared → Prop} (ho : s.heap.get? l = some o) (hc : o.cls = .type "list") (hdat : o.data = .seq items n) (hnd : o.dict = none) {more : List (K × Value)} (hlen : more.length = items.size)
    (hp : ∀ (j : Nat) kv, more[j]? = some kv → ∃ t key, items[j]? = some (.ref t) ∧ PyProof.Rows.IsTup s.heap t #[key, kv.2] ∧ knd.is kv.1 key = true) (hz : more.length ≤ sizeLine)
    (h : ∀ h' tk, h'.DictOf knd s.heap.objs.size (merged [] more) → (∀ c o, s.heap.get? c = some o → h'.get? c = some o) → Q (.ref s.heap.objs.size) { s with heap := h', toks := tk }) :
    wpAny (model prog w) A (call (.type "dict") [.ref l]) Q E s := by
  refine callType_codes (Q₁ := fun obj s₁ => obj = .ref s.heap.objs.size ∧ s₁ = { s with heap := s.heap.push { cls := .type "dict", data := .dict #[] } }) F.kt_called_dict (F.kt_typeCall_dict_1 _) F.entry_dict_init (kt_code_dict_new _ ⟨rfl, rfl⟩) ?_
  rintro obj s₁ ⟨rfl, rfl⟩
  have hnew : (s.heap.push { cls := .type "dict", data := .dict #[] }).DictOf knd s.heap.objs.size [] := Heap.DictOf.new s.heap
  refine ⟨hnew.typeIs, F.args_dict_init_2 _ _, ?_⟩
  have ho1 : (s.heap.push { cls := .type "dict", data := .dict #[] }).get? l = some o := Heap.get?_push_of_some _ ho
  refine wpAny_bind ?_
  unfold Builtin.Dict.selfAndRest
  refine wpAny_bind (wpAny_notOrdered_dict hnew.typeIs ?_)
  refine wpAny_pure ?_
  show wpAny _ _ (Builtin.Dict.updateFrom "dict.__init__" s.heap.objs.size (.ref l) [] .none) _ _ _
  unfold Builtin.Dict.updateFrom
  refine wpAny_bind (wpAny_typeOf (T := "list") ⟨o, ho1, hc⟩ ?_)
  rw [if_pos (by decide)]
  refine wpAny_bind (Vu (A := A.in1.in1) ho1 hc hdat hnd hh fun h1 tk k1 => ?_)
  rw [if_pos (by rfl)]
  refine wpAny_bind (wpAny_rule ?_)
  have ho2 : h1.get? l = some o := k1 _ _ ho1
  refine wpAny_bind (wpAny_pyIter_list (items := items) ⟨o, ho2, hc, n, hdat⟩ ?_)
  have hlt : s.heap.objs.size < h1.objs.size := Heap.lt_size (k1 _ _ (Heap.get?_push_size s.heap (o := { cls := .type "dict", data := .dict #[] }) rfl))
  have hl0 : l < s.heap.objs.size := Heap.lt_size ho
  obtain ⟨od, es, ep, hod, rd⟩ := hnew
  have kk : ∀ c u, s.heap.get? c = some u → (h1.push { cls := .type "list_iterator", data := .fields #[.ref l, .int 0 0] }).get? c = some u := fun c u q => Heap.get?_push_of_some _ (k1 _ _ (Heap.get?_push_of_some _ q))
  refine wpAny_pure ⟨plainId_quiet vd _, JY (knd := knd) (A := A.in1) (d := s.heap.objs.size) (it := h1.objs.size) (l := l) (items := items) hh (Nat.ne_of_lt hlt) (Nat.ne_of_gt hl0) (Nat.ne_of_gt (Nat.lt_trans hl0 hlt)) more 0 _ [] (by rw [hlen]; omega) ?_ ?_ ?_ (fun j kv hj => ?_) (by simpa using hz) fun h' tk' hd' k' => ⟨rfl, ?_⟩⟩
  · exact ⟨od, es, ep, Heap.get?_push_of_some _ (k1 _ _ hod), rd⟩
  · exact ⟨_, Heap.get?_push_size _ rfl, rfl, rfl⟩
  · exact ⟨o, Heap.get?_push_of_some _ ho2, hc, n, hdat⟩
  · obtain ⟨t, key, e1, ⟨ot, e2, r2⟩, e3⟩ := hp j kv hj
    have ht : t < s.heap.objs.size := Heap.lt_size e2
    exact ⟨t, key, by simpa using e1, Nat.ne_of_lt ht, Nat.ne_of_lt (Nat.lt_trans ht hlt), ⟨ot, kk _ _ e2, r2⟩, e3⟩
  · exact h h' tk' hd' fun c u q => k' c u (Nat.ne_of_lt (Heap.lt_size q)) (Nat.ne_of_lt (Nat.lt_trans (Heap.lt_size q) hlt)) (kk c u q)
end
end PySem
namespace PySem
open PySem PySem.W PySem.Calls PyProof.Rows
section
variable {prog : Program} {w : World} {A : Around} {E : Value → Shared → Prop} {s : Shared} {T : String} {r d : Addr} {n : Nat} {P : Nat → Value → Prop} {OK : Heap → Prop}
end
end PySem
namespace L2
open PySem PySem.Spec PyProof.Rows
noncomputable def Ite (K : PySem.W.Frag) (a : Addr) : It :=
  ⟨fun i H => ∃ xs x, SqL K H a xs ∧ xs[i]? = some x, fun i H x H' => ∃ t y, x = .ref t ∧ H t = none ∧ H' = upd H t (.tup [.int i, y]) ∧ ∀ xs, SqL K H a xs → xs[i]? = some y, fun i H => ∃ xs, SqL K H a xs ∧ xs.length ≤ i⟩
section
variable {X : Cx}
end
noncomputable def zac (K : PySem.W.Frag) (a : Addr) (g : TG) (tb : TS) (D : Ends) (σ : St) (H : Hp) : Prop := ∃ W : Nat → Nat → St → Hp → Prop, (∃ m, W 0 m σ H) ∧ ∀ i m σ H, W i m σ H →
  ((Ite K a).stop i H ∧ D.nx σ H) ∨ ((Ite K a).go i H ∧ ∃ N : St → Hp → Prop, (∀ σ' H', N σ' H' → ∃ m', m' < m ∧ W (i + 1) m' σ' H') ∧ ∀ x H', (Ite K a).yld i H x H' → g x σ H' fun σ2 H2 => tb { D with nx := N, ct := N, bk := D.nx } σ2 H2)
theorem zac.run {K : PySem.W.Frag} {a : Addr} {xs : List V} {g : TG} {tb : TS} {D : Ends} {σ : St} {H : Hp} (Pv : Nat → St → Hp → Prop) (h0 : Pv 0 σ H) (hl : ∀ i σ H, i ≤ xs.length → Pv i σ H → SqL K H a xs)
    (hs : ∀ i x σ H t, xs[i]? = some x → Pv i σ H → H t = none → ∀ R : St → Hp → Prop, (∀ σ' H', Pv (i + 1) σ' H' → R σ' H') → g (.ref t) σ (upd H t (.tup [.int i, x])) fun σ2 H2 => tb { D with nx := R, ct := R, bk := D.nx } σ2 H2) (hd : ∀ σ H, Pv xs.length σ H → D.nx σ H) :
    zac K a g tb D σ H := by
  refine ⟨fun i m σ H => m = xs.length - i ∧ i ≤ xs.length ∧ Pv i σ H, ⟨xs.length, by simp, Nat.zero_le _, h0⟩, ?_⟩
  rintro i m σ H ⟨rfl, hi, p⟩
  have q := hl i σ H hi p
  by_cases hlt : i < xs.length
  · refine .inr ⟨⟨xs, xs[i], q, by simp [hlt]⟩, Pv (i + 1), fun σ' H' p' => ⟨xs.length - (i + 1), by omega, rfl, hlt, p'⟩, ?_⟩
    rintro _ _ ⟨t, y, rfl, ht, rfl, hy⟩
    exact hs i y σ H t (hy xs q) p ht _ fun _ _ z => z
  · have e : i = xs.length := by omega
    subst e
    exact .inl ⟨⟨xs, q, Nat.le_refl _⟩, hd σ H p⟩
noncomputable def zcq (lo c : Int) (n : Nat) : It := ⟨fun i _ => i < n, fun i H x H' => H' = H ∧ x = .int (lo + (i : Nat) * c), fun i _ => n ≤ i⟩
theorem Vv {P : Program} {w : World} {K : PySem.W.Frag} {tg : Expr} (it : Addr) (lo c : Int) (n : Nat) : Turn P w K tg (zcq lo c n) [it] it (fun i h => IsRangeIter h it (lo + (i : Nat) * c) ((n : Int) - (i : Nat)) c) where
  mem := by simp
  obj := fun i h st b hb => by
    have e : b = it := by simpa using hb
    subst e
    exact ⟨_, st, fun v z => by
      have z' : Data.fields _ = Data.cell v := z
      cases z'⟩
  keep := fun i h h' st k => k it (by simp) _ st
  item := by
    intro X hP hw hK hc i pins s σ H E I hf st hg
    subst hP hw hK
    obtain ⟨f0, f1, f2, f3, f4, f5⟩ := hf it (by simp)
    have W := Walks.range (prog := X.prog) (w := X.w) (I.ok.hd hc) it lo c n
    refine W.item i s _ _ hg st fun v h' tk hv st' kk => ?_
    obtain ⟨t, rfl⟩ := hv
    have I1 : Inv X pins σ H { s with heap := h', toks := tk } := I.turned (fun b o hb e => kk b o (by simpa using hb) e) f0 f1 f3 f4 f5
    exact ⟨_, rfl, YN (s := { s with heap := h', toks := tk }) (n := "range_iterator") st' rfl rfl (by decide) ⟨.int (lo + (i : Nat) * c), H, I1, ⟨t, rfl⟩, ⟨rfl, rfl⟩, st', fun b hb => (hf b hb).1⟩⟩
  done := by
    intro X hP hw hK hc i pins s σ H E I hf st hg
    subst hP hw hK
    obtain ⟨f0, f1, f2, f3, f4, f5⟩ := hf it (by simp)
    exact wpAny_pyNext_range_end (I.ok.hd hc) st (by have : n ≤ i := hg; omega) fun h' eb => ⟨rfl, I.turned (t' := s.toks) (fun b o hb e => eb b o hb e) f0 f1 f3 f4 f5⟩
  self := fun _ _ _ _ _ st h => wpAny_pyIter_rangeiter st h
end L2
namespace L2
open PySem PySem.Spec PyProof.Rows
section
variable {X : Cx} {tg : Expr}
noncomputable def R3 (i j c : Int) (n : Nat) : Prop := c ≠ 0 ∧ Builtin.Range.small i j c = true ∧ Builtin.Range.rangeSize i j c = n ∧ Builtin.divisionGoesByPylong (j - i) c = false
noncomputable def zad (ta : TA) : TI := fun σ H R => ta σ H fun vs H1 => ∃ (i j c : Int) (n : Nat), vs = [.int i, .int j, .int c] ∧ R3 i j c n ∧ R (zcq i c n) H1
theorem QX {a b c : Expr} {ta : TA} {p pos : Pos} (hg : Gl X "range") (hm : X.mg "range" = none) (ha : PA X [a, b, c] ta) (hs : starEach [a, b, c] X.env = (false, eval a X.env) :: starEach [b, c] X.env := by rfl)
    (hs2 : (backTo pos (starEach [b, c] X.env)).any (·.1) = false := by rfl) : PI X tg (.Call (.Name "range" p) [a, b, c] [] pos) (zad ta) := by
  intro pins s σ H R I h
  refine Call_ (uA I hg hm boot_range (PyProof.Rows.callWith_type1 (thn (ha pos pins s σ H _ I h) fun us s1 ⟨vs, H1, I1, r1, q1⟩ => ?_) hs hs2))
  obtain ⟨i, j, k, n, e, ⟨k0, sm, sz, dv⟩, q⟩ := q1
  subst e
  cases r1 with
  | cons r rr =>
    cases rr with
    | cons r' rr =>
      cases rr with
      | cons r2 rr =>
        cases rr
        obtain ⟨t, rfl⟩ := r
        obtain ⟨t', rfl⟩ := r'
        obtain ⟨t2, rfl⟩ := r2
        refine call_range_3 k0 ?_ (.inl dv)
        refine wpAny_pyIter_range (IsRange.new ..) sm ?_
        have I2 : Inv X pins σ H1 { s1 with heap := s1.heap.push { cls := .type "range", data := .fields #[.int i t, .int j t', .int k t2] } } := I1.kept (t' := s1.toks) fun b o e => Heap.get?_push_of_some _ e
        refine ⟨_, [(s1.heap.push { cls := .type "range", data := .fields #[.int i t, .int j t', .int k t2] }).objs.size], _, _, H1, rfl, I2.kept (t' := s1.toks) fun b o e => Heap.get?_push_of_some _ e, Vv _ i k n, ?_, fun b hb => ?_, q⟩
        · have e1 : i + ((0 : Nat) : Int) * k = i := by simp
          have e2 : ((n : Nat) : Int) - ((0 : Nat) : Int) = Builtin.Range.rangeSize i j k := by rw [sz]; simp
          show IsRangeIter _ _ (i + ((0 : Nat) : Int) * k) (((n : Nat) : Int) - ((0 : Nat) : Int)) k
          rw [e1, e2]
          exact Heap.get?_push_size _ rfl
        · have e : b = (s1.heap.push { cls := .type "range", data := .fields #[.int i t, .int j t', .int k t2] }).objs.size := by simpa using hb
          subst e
          exact I2.fpOk (Nat.le_refl _) (I2.hok.fresh (Nat.le_refl _))
end
section
variable {X : Cx}
noncomputable def srt (ns : List Int) : List Int := ns.mergeSort fun a b => decide (a ≤ b)
theorem zcr (ns : List Int) : (srt ns).Pairwise (· ≤ ·) := by
  have h := List.pairwise_mergeSort (le := fun a b : Int => decide (a ≤ b)) (fun a b c h1 h2 => by simp at h1 h2 ⊢; omega) (fun a b => by simp; omega) ns
  exact h.imp fun h => by simpa using h
theorem Xl : ∀ {a b : List Int}, a.Perm b → a.Pairwise (· ≤ ·) → b.Pairwise (· ≤ ·) → a = b
  | [], b, h, _, _ => by
    have := h.length_eq
    cases b with
    | nil => rfl
    | cons => cases this
  | x :: a, [], h, _, _ => by cases h.length_eq
  | x :: a, y :: b, h, ha, hb => by
    have e : x = y := by
      have h1 : x ∈ y :: b := h.mem_iff.mp (List.mem_cons_self ..)
      have h2 : y ∈ x :: a := h.mem_iff.mpr (List.mem_cons_self ..)
      have l1 : x ≤ y := by
        rcases List.mem_cons.mp h2 with z | z
        · exact Int.le_of_eq z.symm
        · exact (List.pairwise_cons.mp ha).1 y z
      have l2 : y ≤ x := by
        rcases List.mem_cons.mp h1 with z | z
        · exact Int.le_of_eq z.symm
        · exact (List.pairwise_cons.mp hb).1 x z
      omega
    subst e
    rw [Xl (List.Perm.cons_inv h) (List.pairwise_cons.mp ha).2 (List.pairwise_cons.mp hb).2]
theorem QY {ns ns' : List Int} (h1 : ns'.Perm ns) (h2 : ns'.Pairwise (· ≤ ·)) : ns' = srt ns := Xl (h1.trans (List.mergeSort_perm ns _).symm) h2 (zcr ns)
theorem za3 (ns : List Int) : (srt ns).length = ns.length := (List.mergeSort_perm ns _).length_eq
theorem jC : ∀ {ns : List Int} {us : List Value}, Vals (ns.map V.int) us → IntsAre us ns
  | [], _, h => by cases h; exact .nil
  | n :: ns, _, h => by
    cases h with
    | cons h1 h2 =>
      obtain ⟨t, rfl⟩ := h1
      exact .cons n t (jC h2)
noncomputable def zae (K : PySem.W.Frag) : List V → Hp → VK → Prop := fun xs H Q => ∃ a ns, xs = [.ref a] ∧ SqL K H a (ns.map V.int) ∧ ns.length < 64 ∧ ∀ p, H p = none → Q (.ref p) (upd H p (.lst ((srt ns).map V.int)))
theorem Xm : xo X (.builtin "sorted") (zae X.K) := by
  intro pins s σ H xs us Q I r h
  obtain ⟨a, ns, rfl, hq, hl, q⟩ := h
  obtain ⟨u, rfl, ru⟩ := r.one
  cases ru
  obtain ⟨its, rv, p, hz⟩ := I.list hq
  have hI := jC rv
  have hlen := rv.length
  rw [List.length_map] at hlen
  refine sorted_ints p.isList hI (by omega) fun out ns' a1 a2 a3 => ?_
  obtain ⟨e, he⟩ := sortedAll_at s.heap its out
  have en := QY a2 a3
  subst en
  refine ⟨.ref (s.heap.objs.size + 1), _, I.laid (a := s.heap.objs.size + 1) (o := .lst ((srt ns).map V.int)) (t' := s.toks) (fun b o e => sortedAll_old e) (Nat.le_succ _) ⟨?_, out.toList, e, jA a1, ?_⟩, rfl, q _ (I.hok.fresh (Nat.le_succ _))⟩
  · rw [List.length_map, za3, sizeLine_eq]; omega
  · rw [Array.toArray_toList]; exact he
noncomputable def vt (K : PySem.W.Frag) (H : Hp) : List V → List (Key × V) → Prop := Paired fun y kv => ∃ t, y = .ref t ∧ SqT K H t [kV kv.1, kv.2]
theorem vt.get {K : PySem.W.Frag} {H : Hp} : ∀ {ys : List V} {kvs : List (Key × V)} {j : Nat} {kv : Key × V}, vt K H ys kvs → kvs[j]? = some kv → ∃ t, ys[j]? = some (.ref t) ∧ SqT K H t [kV kv.1, kv.2]
  | _, _, _, _, .nil, e => by simp at e
  | _, _, 0, _, .cons r _, e => by
    simp at e
    subst e
    obtain ⟨t, rfl, h⟩ := r
    exact ⟨t, rfl, h⟩
  | _, _, j + 1, kv, .cons _ q, e => by
    obtain ⟨t, h1, h2⟩ := vt.get (j := j) (kv := kv) q (by simpa using e)
    exact ⟨t, by simpa using h1, h2⟩
theorem vt.snoc {K : PySem.W.Frag} {H : Hp} {y : V} {kv : Key × V} (hy : ∃ t, y = .ref t ∧ SqT K H t [kV kv.1, kv.2]) : ∀ {ys : List V} {kvs : List (Key × V)}, vt K H ys kvs → vt K H (ys ++ [y]) (kvs ++ [kv])
  | _, _, .nil => .cons hy .nil
  | _, _, .cons r q => .cons r (vt.snoc hy q)
theorem vt.keep {K : PySem.W.Frag} {H H' : Hp} {ys : List V} {kvs : List (Key × V)} (h : vt K H ys kvs) (k : ∀ b xs, SqT K H b xs → SqT K H' b xs) : vt K H' ys kvs :=
  Paired.imp' (fun y kv ⟨t, e, q⟩ => ⟨t, e, k t _ q⟩) h
noncomputable def QZ (K : PySem.W.Frag) : List V → Hp → VK → Prop := fun xs H Q => ∃ a ys kvs, xs = [.ref a] ∧ SqL K H a ys ∧ vt K H ys kvs ∧ kvs.length ≤ 1000 ∧ ∀ p, H p = none → Q (.ref p) (upd H p (.dK (xV [] kvs)))
theorem UE (hc : X.calm = true) : xo X (.type "dict") (QZ X.K) := by
  intro pins s σ H xs us Q I r h
  obtain ⟨a, ys, kvs, rfl, hq, hp, hl, q⟩ := h
  obtain ⟨u, rfl, ru⟩ := r.one
  cases ru
  obtain ⟨its, rv, ⟨o, n, e, c, hnd, dt⟩, hz⟩ := I.list hq
  have l1 := Paired.length hp
  have l2 := rv.length
  have hval : ∃ ws : List (Key × Value), KV kvs ws ∧ ∀ (j : Nat) kv, ws[j]? = some kv → ∃ t key, its[j]? = some (.ref t) ∧ IsTup s.heap t #[key, kv.2] ∧ (yT X.prog X.w).is kv.1 key = true := by
    clear q dt e hz l1 l2 hq
    induction hp generalizing its with
    | nil => exact ⟨[], .nil, fun j kv hj => by simp at hj⟩
    | @cons y kv ys kvs hy t ih =>
      cases rv with
      | @cons _ w1 _ ws1 r1 r2 =>
        obtain ⟨ws, k1, k2⟩ := ih (by simp at hl; omega) _ r2
        obtain ⟨b, rfl, hb⟩ := hy
        cases r1
        obtain ⟨tt, rt, pt, _⟩ := I.tuple hb
        cases rt with
        | @cons _ key _ t1 rk t1r =>
          cases t1r with
          | @cons _ v _ t2 rv' t2r =>
            cases t2r
            refine ⟨(kv.1, v) :: ws, .cons ⟨rfl, rv'⟩ k1, fun j kv' hj => ?_⟩
            cases j with
            | zero =>
              cases hj
              obtain ⟨ot, e1, e2, _, e3⟩ := pt
              exact ⟨b, key, rfl, ⟨ot, e1, e2, _, e3⟩, ke rk⟩
            | succ j =>
              obtain ⟨t', key', g1, g2, g3⟩ := k2 j kv' (by simpa using hj)
              exact ⟨t', key', by simpa using g1, g2, g3⟩
  obtain ⟨ws, k1, k2⟩ := hval
  have l3 := k1.length
  refine JZ (knd := yT X.prog X.w) (I.ok.hd hc) e c dt hnd (more := ws) (by simp; omega) (fun j kv hj => ?_) (by rw [sizeLine_eq]; omega) fun h' tk dd kk => ?_
  · obtain ⟨t, key, g1, g2, g3⟩ := k2 j kv hj
    exact ⟨t, key, by simpa using g1, g2, g3⟩
  · refine ⟨.ref s.heap.objs.size, _, I.laid (a := s.heap.objs.size) (o := .dK (xV [] kvs)) (t' := tk) kk (Nat.le_refl _) ?_, rfl, q _ (I.hok.fresh (Nat.le_refl _))⟩
    have hz2 : (xV [] kvs).length ≤ sizeLine := by
      have h1 := vq kvs []
      rw [List.length_nil] at h1
      rw [sizeLine_eq]; omega
    exact Zm hz2 (beq_eq_false_iff_ne.mpr (Ne.symm (Nat.ne_of_lt I.big))) (KV.merge k1 .nil) dd
noncomputable def V2 : V → List V → Hp → VK → Prop := fun x vs H Q => ∃ a b kvs more, x = .ref a ∧ vs = [.ref b] ∧ H a = some (.dK kvs) ∧ H b = some (.dK more) ∧ a ≠ b ∧ kvs.length + more.length ≤ 1000 ∧ Q .non (upd H a (.dK (xV kvs more)))
theorem jD : MtR X "dict.update" V2 := by
  intro pins s σ H x xs v us Q I rx r h
  obtain ⟨a, b, kvs, more, rfl, rfl, e1, e2, hab, hl, q⟩ := h
  obtain ⟨u, rfl, ru⟩ := r.one
  cases ru
  cases rx
  obtain ⟨z1, hd1, vs, rel1, dd1⟩ := Zj I.hok e1
  obtain ⟨z2, hd2, ws, rel2, dd2⟩ := Zj I.hok e2
  have l1 := rel1.length
  have l2 := rel2.length
  have l3 := vq more kvs
  refine call_meetsIn PySem.F.slot_dict_update dd1.typeIs PySem.F.entry_dict_update (PySem.F.args_dict_update_2 _ _) (meets_dict_update (yT X.prog X.w) a b hab hd2)
    ⟨vs, ws, dd1, dd2, (by rw [sizeLine_eq]; omega), fun h' dd' _ hs => ⟨.non, _, ?_, rfl, q⟩⟩
  have he : ∃ q, h'.get? a = some q := let ⟨q, _, _, hq, _⟩ := dd'; ⟨q, hq⟩
  exact kf I (by rw [e1]; exact True.intro) hs he (Zm (by rw [sizeLine_eq]; omega) hd1 (KV.merge rel2 rel1) dd')
end
end L2
namespace L2
open PySem PySem.Spec PyProof.Rows
section
variable {X : Cx} {pos : Pos}
end
structure CalM (P : Program) (w : World) (K : PySem.W.Frag) (mg : Str → Option Value) (base : Heap) (k : Nat) (x : Str) (C : Addr) (sp : Sp) : Prop where
  ex : ∃ (f : Addr) (fd : FuncData) (ps : List Str), Mk K C f ∧ FnOk P w K mg base CX0 k f fd ps sp ∧ mg x = some (.ref C) ∧ Binds K fd ps []
section
variable {X : Cx} {k : Nat} {sp : Sp} {C : Addr} {x : Str} {p pos : Pos} {e : Expr} {es : List Expr} {t : TA}
theorem zcs (c : CalM X.prog X.w X.K X.mg X.base k x C sp) (hr : Room (k + 1) X.A) (hg : Gl X x) (ha : PA X (e :: es) t) (hdb : (x == ("__debug__" : Str)) = false := by decide)
    (he : starEach (e :: es) X.env = (false, eval e X.env) :: starEach es X.env := by rfl) (hpl : (backTo pos (starEach es X.env)).any (·.1) = false := by rfl) : PE X (.Call (.Name x p) (e :: es) [] pos) (Uz C sp [] E0 t) := by
  obtain ⟨f, fd, ps, M, F, hm, hb⟩ := c.ex
  exact zaS M F hr hg hm hb .nil UD ha hdb he hpl
end
noncomputable def Itf (f : Nat → Int) (n : Nat) : It := ⟨fun i _ => i < n, fun i H x H' => H' = H ∧ x = .int (f i), fun i _ => n ≤ i⟩
noncomputable def LcF (n0 : Nat) (f : Nat → Int) (g : TG) (tt : TT) (te : TE) (σ0 : St) (H1 : Hp) (Q : VK) : Prop := ∀ D, H1 D = none → ∃ W : Nat → Nat → St → Hp → Prop, (∃ m, W 0 m σ0 (upd H1 D (.lst []))) ∧ ∀ i m σ' H', W i m σ' H' →
  ((Itf f n0).stop i H' ∧ Q (.ref D) H') ∨ ((Itf f n0).go i H' ∧ ∃ Nx : St → Hp → Prop, (∀ σ2 H2, Nx σ2 H2 → ∃ m', m' < m ∧ W (i + 1) m' σ2 H2) ∧
    ∀ x H2, (Itf f n0).yld i H' x H2 → g x σ' H2 fun σ3 H3 => tt σ3 H3 fun ok H4 => if ok = true then te σ3 H4 fun y H5 => ∃ ys, H5 D = some (.lst ys) ∧ ys.length < sizeLine ∧ Nx σ3 (upd H5 D (.lst (ys ++ [y]))) else Nx σ3 H4)
theorem LcF.by {n0 : Nat} {f : Nat → Int} {g : TG} {tt : TT} {te : TE} {σ0 : St} {H1 : Hp} {Q : VK} (Pv : Addr → Nat → St → Hp → Prop) (h0 : ∀ D, H1 D = none → Pv D 0 σ0 (upd H1 D (.lst [])))
    (hs : ∀ D i σ H, H1 D = none → i < n0 → Pv D i σ H → g (.int (f i)) σ H fun σ3 H3 => tt σ3 H3 fun ok H4 => if ok = true then te σ3 H4 fun y H5 => ∃ ys, H5 D = some (.lst ys) ∧ ys.length < sizeLine ∧ Pv D (i + 1) σ3 (upd H5 D (.lst (ys ++ [y]))) else Pv D (i + 1) σ3 H4)
    (hd : ∀ D σ H, H1 D = none → Pv D n0 σ H → Q (.ref D) H) : LcF n0 f g tt te σ0 H1 Q := by
  intro D hD
  refine ⟨fun i m σ H => m = n0 - i ∧ i ≤ n0 ∧ Pv D i σ H, ⟨n0, by simp, Nat.zero_le _, h0 D hD⟩, ?_⟩
  rintro i m σ H ⟨rfl, hi, p⟩
  by_cases hlt : i < n0
  · refine .inr ⟨hlt, Pv D (i + 1), fun σ' H' p' => ⟨n0 - (i + 1), by omega, rfl, hlt, p'⟩, fun x H' y => ?_⟩
    obtain ⟨e, y⟩ := y
    subst e y
    exact hs D i σ _ hD hlt p
  · have e : i = n0 := by omega
    subst e
    exact .inl ⟨Nat.le_refl _, hd D σ H hD p⟩
end L2
namespace L2
open PySem PySem.Spec PyProof.Rows
theorem Zp {X : Cx} {x : Str} {i : Int} {pos : Pos} (hg : Gl X x) (h : ∃ t, X.mg x = some (.int i t)) (hd : (x == ("__debug__" : Str)) = false := by decide) : PE X (.Name x pos) (tC (.int i)) := by
  obtain ⟨t, e⟩ := h
  exact ZY hg e ⟨t, rfl⟩ hd
noncomputable def zaf (K : PySem.W.Frag) (a : Addr) (g : TG) (tb : TS) (D : Ends) (σ : St) (H : Hp) : Prop := ∃ W : Nat → Nat → St → Hp → Prop, (∃ m, W 0 m σ H) ∧ ∀ i m σ H, W i m σ H →
  ((Itt K a).stop i H ∧ D.nx σ H) ∨ ((Itt K a).go i H ∧ ∃ N : St → Hp → Prop, (∀ σ' H', N σ' H' → ∃ m', m' < m ∧ W (i + 1) m' σ' H') ∧ ∀ x H', (Itt K a).yld i H x H' → g x σ H' fun σ2 H2 => tb { D with nx := N, ct := N, bk := D.nx } σ2 H2)
theorem zaf.run {K : PySem.W.Frag} {a : Addr} {xs : List V} {g : TG} {tb : TS} {D : Ends} {σ : St} {H : Hp} (Pv : Nat → St → Hp → Prop) (h0 : Pv 0 σ H) (hl : ∀ i σ H, i ≤ xs.length → Pv i σ H → SqT K H a xs)
    (hs : ∀ i x σ H, xs[i]? = some x → Pv i σ H → ∀ R : St → Hp → Prop, (∀ σ' H', Pv (i + 1) σ' H' → R σ' H') → g x σ H fun σ2 H2 => tb { D with nx := R, ct := R, bk := D.nx } σ2 H2) (hd : ∀ σ H, Pv xs.length σ H → D.nx σ H) : zaf K a g tb D σ H :=
  zaM Pv h0 hl (fun i x σ H hi p => hs i x σ H hi p _ fun _ _ z => z) hd
end L2
namespace L2
open PySem PySem.Spec PyProof.Rows
noncomputable def cE : Expr → Option V
  | .Constant (.int i) _ _ => some (.int i)
  | .Constant .none _ _ => some .non
  | .Constant (.bool b) _ _ => some (.bl b)
  | .Constant (.str x) _ _ => some (.str x)
  | _ => none
noncomputable def UF : List Expr → Option (List V)
  | [] => some []
  | e :: es => match cE e, UF es with
    | some v, some vs => some (v :: vs)
    | _, _ => none
noncomputable def tCs (vs : List V) : TA := fun _ H Q => Q vs H
theorem zdx {X : Cx} {e : Expr} {v : V} (h : cE e = some v) : PE X e (tC v) := by
  unfold cE at h
  split at h
  · cases h; exact zc
  · cases h; exact yZ
  · cases h; exact yW
  · cases h; exact zd
  · cases h
theorem za4 {e : Expr} {v : V} (h : cE e = some v) : Xi e = true := by
  unfold cE at h
  split at h <;> first | rfl | cases h
theorem Q0 {X : Cx} : ∀ {es : List Expr} {vs : List V}, UF es = some vs → QA X es (tCs vs)
  | [], vs, h => by
    cases h
    exact qn
  | e :: es, vs, h => by
    simp only [UF] at h
    split at h
    · rename_i v ws h1 h2
      cases h
      exact qc (zdx h1) (Q0 h2) (za4 h1)
    · cases h
theorem za5 {X : Cx} {es : List Expr} {vs : List V} {pos : Pos} (h : UF es = some vs) : PE X (.List es pos) (Z1 (tCs vs)) := xr (Q0 h)
end L2
namespace L2
open PySem PySem.W PySem.Calls PyProof.Rows
section
variable {X : Cx}
end
end L2
namespace PySem
open PySem PySem.W PySem.Calls PyProof.Rows
section
variable {prog : Program} {w : World} {A : Around} {R : Result → Shared → Prop} {I S : Addr} {fp wr : List Addr} {n : Nat} {P : Nat → Value → Prop} {St : Nat → Heap → Prop}
end
end PySem
namespace L2
open PySem PySem.W PySem.Calls PyProof.Rows
section
variable {X : Cx} {x : Str} {p pos : Pos} {e : Expr} {es : List Expr} {kws : List Keyword} {ks : List Str} {t tk : TA} {id : String} {r : List V → List V → Hp → VK → Prop}
end
end L2
namespace L2
open PySem PySem.Spec PyProof.Rows
structure CalT (P : Program) (w : World) (K : PySem.W.Frag) (mg : Str → Option Value) (base : Heap) (k : Nat) (m : Str) (C : Addr) (sp : Sp) : Prop where
  ex : ∃ (f : Addr) (fd : FuncData) (ps : List Str), Cls K C ∧ Meth K C m f ∧ FnOk P w K mg base CX0 k f fd ps sp ∧ Binds K fd ps []
section
variable {X : Cx} {k : Nat} {sp : Sp} {C : Addr} {m : Str} {apos pos : Pos} {o e : Expr} {es : List Expr} {ta : TE} {t : TA}
theorem za6 {pl : Sem Bool} (c : CalT X.prog X.w X.K X.mg X.base k m C sp) (hr : Room k X.A) (he : PE X o ta)
    (ht : eval (.Call (.Attribute o m apos) [] [] pos) X.env = (do
      let ov ← eval o X.env
      standAt apos.atName
      let (f, first) ← holding [ov] (getMethod ov m pl)
      callWith pos f first (backTo pos (starEach [] X.env)) (backToKw pos (keywordEach [] X.env))) := by rfl) : PE X (.Call (.Attribute o m apos) [] [] pos) (Uy C m sp [] E0 ta jz) := by
  obtain ⟨f, fd, ps, c, M, F, hb⟩ := c.ex
  exact JL (pl := pl) he c M F hr hb .nil UD ht
end
end L2
namespace L2
open PySem PySem.Spec PyProof.Rows
structure SV where
  wide : Int
  high : Int
  row : Int
  col : Int
  late : Bool
  ink : Int
  wrap : Bool
  putting : Bool
  home : Bool
  top : Int
  bottom : Int
  left : Int
  right : Int
  last : V
section
variable {p st kp : Addr} {S : SV}
end
structure Sta (K : PySem.W.Frag) (C : Addr) : Prop where
  cl : Cls K C
  n_picture : NoAttr K C "picture"
  n_wide : NoAttr K C "wide"
  n_high : NoAttr K C "high"
  n_row : NoAttr K C "row"
  n_column : NoAttr K C "column"
  n_late : NoAttr K C "late"
  n_ink : NoAttr K C "ink"
  n_wrap : NoAttr K C "wrap"
  n_putting : NoAttr K C "putting"
  n_home : NoAttr K C "home"
  n_top : NoAttr K C "top"
  n_bottom : NoAttr K C "bottom"
  n_left : NoAttr K C "left"
  n_right : NoAttr K C "right"
  n_stops : NoAttr K C "stops"
  n_kept : NoAttr K C "kept"
  n_last : NoAttr K C "last"
section
variable {sl : Addr} {S : SV}
end
noncomputable def Q1 (td ty : TE) : TE := fun σ H Q => td σ H fun x H1 => ty σ H1 fun y H2 => ∃ a kvs k v, x = .ref a ∧ H2 a = some (.dK kvs) ∧ y = kV k ∧ x6 kvs k = some v ∧ Q v H2
noncomputable def Q2 (td ty tv : TE) : TS := fun D σ H => tv σ H fun v H1 => td σ H1 fun x H2 => ty σ H2 fun y H3 => ∃ a kvs k, x = .ref a ∧ H3 a = some (.dK kvs) ∧ y = kV k ∧ kvs.length < 1000 ∧ D.nx σ (upd H3 a (.dK (xR kvs k v)))
section
variable {X : Cx} {o i value : Expr} {td ty tv : TE} {pos pos' : Pos}
theorem PE.cl {e : Expr} {t : TE} (h : PE X e t) : PE X e (fun σ H Q => ∃ Q' : VK, t σ H Q' ∧ ∀ x H1, Q' x H1 → Q x H1) := fun pins s σ H Q I ⟨Q', q, w⟩ =>
  thn (h pins s σ H Q' I q) fun v s1 ⟨x, H1, I1, r1, q1⟩ => ⟨x, H1, I1, r1, w x H1 q1⟩
theorem zf (hu : X.A.units + 1 < cLine) (ho : PE X o td) (hi : PE X i ty) (hs : JW i) : PE X (.Subscript o i pos) (Q1 td ty) := fun pins s σ H Q I h =>
  (za1 hu ho.cl hi.cl hs) pins s σ H Q I ⟨_, h, fun x H1 h1 => ⟨_, h1, fun y H2 ⟨a, kvs, k, v, e1, e2, e3, e4, q⟩ => ⟨a, v, e1, by rw [e3, ← e4]; exact uH.k e2, q⟩⟩⟩
theorem yI (hu : X.A.units + 1 < cLine) (ho : PE X o td) (hi : PE X i ty) (hv : PE X value tv) (hs : swapsWith value (some (.Subscript o i pos')) pos.line X.env = pure false) :
    PS X (.Assign [.Subscript o i pos'] value pos) (Q2 td ty tv) := fun pins s σ H D I h =>
  (za2 hu ho.cl hi.cl hv.cl hs) pins s σ H D I ⟨_, h, fun v H1 h1 => ⟨_, h1, fun x H2 h2 => ⟨_, h2, fun y H3 ⟨a, kvs, k, e1, e2, e3, e4, q⟩ => ⟨a, _, e1, by rw [e3]; exact kO.k e2 (x5 (by omega)), q⟩⟩⟩⟩
end
end L2
namespace L2
open PySem PySem.Spec PyProof.Rows
noncomputable def Sh (i : Int) : Prop := -1000000 ≤ i ∧ i ≤ 1000000
theorem Yr {K : PySem.W.Frag} {H : Hp} : ∀ ns : List Int, Reps K H (ns.map .int) (ns.map V.int)
  | [] => rfl
  | n :: ns => ⟨_, _, rfl, rfl, Yr ns⟩
theorem Sh.log {i : Int} (h : Sh i) : i.natAbs.log2 < 20 := by
  obtain ⟨h1, h2⟩ := h
  by_cases h0 : i.natAbs = 0
  · rw [h0]; decide
  · exact (Nat.log2_lt h0).mpr (by omega)
theorem Sh.w {i : Int} (h : Sh i) : PyData.weight (.int i) ≤ 21 := by
  have := h.log
  simp only [PyData.weight]
  split <;> omega
theorem Sh.short {i : Int} (h : Sh i) : PyData.intsShort 13 (.int i) = true := by
  obtain ⟨h1, h2⟩ := h
  have q : (toString i).length ≤ 7 + 1 := int_text_length_le10 (by decide) (show i.natAbs < 10 ^ 7 by omega)
  have e : (PyData.int i).shown.length = (toString i).length := by
    simp only [PyData.shown]
    exact PySem.ofString_length _
  simp only [PyData.intsShort, decide_eq_true_eq]
  omega
end L2
namespace L2
open PySem PySem.Spec PyProof.Rows
noncomputable def DK (K : PySem.W.Frag) (a : Addr) (D : List (Int × Int)) : Prop := KTD.keyedLook (fun b => K.lookup b) a (D.map fun p => (p.1, PyData.int p.2)) = true
noncomputable def xJ (D : List (Int × Int)) (k : Int) : Option Int := match D with
  | [] => none
  | (i, d) :: r => if k = i then some d else xJ r k
theorem kD (k : Int) : ∀ D : List (Int × Int), KTD.datumAt k (D.map fun p => (p.1, PyData.int p.2)) = (xJ D k).map PyData.int
  | [] => rfl
  | (i, d) :: D => by
    have ih := kD k D
    show (if decide (k = i) = true then some (PyData.int d) else KTD.datumAt k (D.map fun p => (p.1, PyData.int p.2))) = ((if k = i then some d else xJ D k).map PyData.int)
    by_cases h : k = i
    · rw [if_pos (decide_eq_true h), if_pos h, Option.map_some]
    · rw [if_neg (by simpa using h), if_neg h, ih]
noncomputable def UG (K : PySem.W.Frag) (to : TE) (t : TA) : TE := fun σ H Q => to σ H fun x H1 => ∃ a D, x = .ref a ∧ DK K a D ∧ t σ H1 fun xs H2 => ∃ i d, xs = [.int i, .int d] ∧ Q (.int ((xJ D i).getD d)) H2
theorem za7 {X : Cx} {o e : Expr} {es : List Expr} {to : TE} {t : TA} {apos cpos : Pos} (ho : PE X o to) (ha : PA X (e :: es) t)
    (hbase : attributeBase o "get" X.env (eval o X.env) = eval o X.env := by rfl)
    (hfew : ((backTo cpos (starEach (e :: es) X.env)).all (fun x => !x.1) && (backToKw cpos (keywordEach [] X.env)).all (fun x => x.1.isSome)
      && decide ((e :: es).length + ([] : List Keyword).length + (if ([] : List Keyword).isEmpty then 0 else 1) < 30)) = true := by rfl)
    (hline : (apos.endLine == cpos.line) = true := by rfl) (hs : starEach (e :: es) X.env = (false, eval e X.env) :: starEach es X.env := by rfl) (hplain : (backTo cpos (starEach es X.env)).any (·.1) = false := by rfl) :
    PE X (.Call (.Attribute o "get" apos) (e :: es) [] cpos) (UG X.K to t) := by
  intro pins s σ H Q I h
  refine wpAny_Call_method_late hbase hfew hline rfl (thn (ho pins s σ H _ I h) fun v s1 ⟨x, H1, I1, r1, a, D, ex, hD, q1⟩ => ?_)
  subst ex
  cases r1
  have KD := KTD.keyed_of_look (h := s1.heap) (fun b o q => I1.kIn b o q) hD
  obtain ⟨_, kvs, ⟨ob, bs, ep, hob, hc, _⟩, _⟩ := id (KD X.prog X.w)
  refine ⟨"dict", "dict.get", PySem.F.plainAttrs_dict, PySem.F.slot_dict_get, PySem.F.type_dict_get, ⟨ob, hob, hc.1⟩, fun b e => by injection e with e; subst e; exact ⟨ob, hob, hc.2.1⟩, ?_⟩
  have hA := ha cpos pins s1 σ H1 _ I1 q1
  rw [hs] at hA ⊢
  refine Calls.callWith_builtin (by show (false || (backTo cpos (starEach es X.env)).any (·.1)) = false; rw [hplain] <;> rfl) (Calls.evalArgs_plain ?_)
  refine thn hA fun us s2 ⟨vs, H2, I2, r2, i, d, ev, q2⟩ => ?_
  subst ev
  obtain ⟨u1, u2, rfl, h1, h2⟩ := r2.two
  obtain ⟨t1, rfl⟩ := h1
  obtain ⟨t2, rfl⟩ := h2
  have KD2 := KTD.keyed_of_look (h := s2.heap) (fun b o q => I2.kIn b o q) hD
  refine call_get2_intTab (KD2 X.prog X.w) (.int d t2) fun v hv => ?_
  rw [KTD.lookup_keyed, kD] at hv
  have hv' : PyProof.V.Flat v (PyData.int ((xJ D i).getD d)) := by
    cases e : xJ D i with
    | none => rw [e] at hv; exact hv
    | some z => rw [e] at hv; exact hv
  generalize (xJ D i).getD d = z at hv' q2
  cases hv' s2.heap with
  | int _ t => exact ⟨.int _, H2, I2.tok _, ⟨t, rfl⟩, q2⟩
end L2
namespace L2
open PySem PySem.Spec PyProof.Rows
inductive W where
  | d (x : PyData)
  | own (a : Addr)
  | row (a : Addr) (i : Nat)
inductive OO where
  | lst (ws : List W)
  | dK (kvs : List (Key × W))
  | ins (C dx : Addr) (fs : List (Str × W))
  | grid (rows : List (List PyData))
noncomputable abbrev OM := Addr → Option OO
noncomputable def updO (O : OM) (a : Addr) (o : OO) : OM := fun b => if b = a then some o else O b
noncomputable def del (O : OM) (a : Addr) : OM := fun b => if b = a then none else O b
theorem zn {O : OM} {a : Addr} {o : OO} : updO O a o a = some o := by simp [updO]
theorem zi {O : OM} {a b : Addr} {o : OO} (h : b ≠ a) : updO O a o b = O b := by simp [updO, h]
theorem xH {O : OM} {a : Addr} : del O a a = none := by simp [del]
theorem x8 {O : OM} {a b : Addr} (h : b ≠ a) : del O a b = O b := by simp [del, h]
theorem vA {O : OM} {a : Addr} {o u : OO} : updO (updO O a o) a u = updO O a u := by
  funext b; unfold updO; split <;> rfl
theorem neO {O : OM} {a b : Addr} {o : OO} (h : O a = some o) (h' : O b = none) : a ≠ b := by
  intro e; subst e; rw [h] at h'; cases h'
structure Gh where
  Z : Hp
  G : Addr → Option (List Addr)
  F : Hp
structure Le (Γ Γ' : Gh) : Prop where
  f : Γ'.F = Γ.F
  z : Same Γ.Z Γ'.Z
  g : ∀ a rs, Γ.G a = some rs → ∃ more, Γ'.G a = some (rs ++ more)
theorem Le.refl (Γ : Gh) : Le Γ Γ := ⟨rfl, Same.refl _, fun _ rs h => ⟨[], by rw [List.append_nil]; exact h⟩⟩
theorem Le.trans {Γ Γ1 Γ2 : Gh} (a : Le Γ Γ1) (b : Le Γ1 Γ2) : Le Γ Γ2 := ⟨b.f.trans a.f, a.z.trans b.z, fun x rs h => by
  obtain ⟨m, h1⟩ := a.g x rs h
  obtain ⟨m2, h2⟩ := b.g x _ h1
  exact ⟨m ++ m2, by rw [← List.append_assoc]; exact h2⟩⟩
theorem Le.zOnly {Γ : Gh} {Z : Hp} (h : Same Γ.Z Z) : Le Γ ⟨Z, Γ.G, Γ.F⟩ := ⟨rfl, h, fun _ rs h => ⟨[], by rw [List.append_nil]; exact h⟩⟩
section
variable (K : PySem.W.Frag)
noncomputable def relW (Γ : Gh) : W → V → Prop
  | .d x, v => Rep K Γ.Z x v
  | .own a, v => v = .ref a
  | .row a i, v => ∃ rs r, Γ.G a = some rs ∧ rs[i]? = some r ∧ v = .ref r
noncomputable abbrev relWs (Γ : Gh) : List W → List V → Prop := Paired (relW K Γ)
noncomputable def qW (Γ : Gh) : Option W → Option V → Prop
  | some w, some v => relW K Γ w v
  | none, _ => True
  | _, _ => False
noncomputable abbrev relR (Γ : Gh) : List (Option W) → St → Prop := Paired (qW K Γ)
noncomputable def xf {κ : Type} (Γ : Gh) : List (κ × W) → List (κ × V) → Prop := Paired fun p q => p.1 = q.1 ∧ relW K Γ p.2 q.2
noncomputable def ObjW (Γ : Gh) (O : OM) (H : Hp) (a : Addr) : OO → Prop
  | .lst ws => ∃ vs, H a = some (.lst vs) ∧ relWs K Γ ws vs
  | .dK kvs => ∃ vs, H a = some (.dK vs) ∧ xf K Γ kvs vs
  | .ins C dx fs => ∃ vs, H a = some (.ins C dx vs) ∧ xf K Γ fs vs
  | .grid rows => ∃ rs, Γ.G a = some rs ∧ H a = some (.lst (rs.map V.ref)) ∧ rs.length = rows.length ∧ rs.Nodup ∧
      ∀ (i : Nat) (r : Addr) (ds : List PyData), rs[i]? = some r → rows[i]? = some ds → Γ.Z r = none ∧ O r = none ∧ ∃ vs, H r = some (.lst vs) ∧ Reps K Γ.Z ds vs
structure Sim (Γ : Gh) (O : OM) (H : Hp) : Prop where
  z : Same Γ.Z H
  o : ∀ a oo, O a = some oo → Γ.Z a = none ∧ ObjW K Γ O H a oo
  gd : ∀ a rs, Γ.G a = some rs → ∃ o, H a = some o
  f : Same Γ.F H
  gn : ∀ a oo, O a = some oo → (∀ rows, oo ≠ .grid rows) → Γ.G a = none
  fg : ∀ a o, Γ.F a = some o → Γ.G a = none
  fd : ∀ a o, Γ.F a = some o → Γ.Z a = none ∧ O a = none ∧ ∀ b rows rs, O b = some (.grid rows) → Γ.G b = some rs → a ∉ rs
  u : ∀ a b ra rb rs ss r, O a = some (.grid ra) → O b = some (.grid rb) → Γ.G a = some rs → Γ.G b = some ss → r ∈ rs → r ∈ ss → a = b
end
section
variable {K : PySem.W.Frag} {Γ Γ' : Gh} {O : OM} {H H' : Hp}
theorem relW.mono (h : Le Γ Γ') : ∀ {w : W} {v : V}, relW K Γ w v → relW K Γ' w v
  | .d x, v, r => Rep.same h.z x v r
  | .own a, v, r => r
  | .row a i, v, ⟨rs, r, e, f, g⟩ => by
    obtain ⟨m, e'⟩ := h.g _ _ e
    have hi : i < rs.length := (List.getElem?_eq_some_iff.mp f).1
    exact ⟨rs ++ m, r, e', by rw [List.getElem?_append_left hi]; exact f, g⟩
theorem relWs.mono (h : Le Γ Γ') {ws : List W} {vs : List V} (r : relWs K Γ ws vs) : relWs K Γ' ws vs := Paired.mapP r fun _ _ z => z.mono h
theorem qW.mono (h : Le Γ Γ') : ∀ {w : Option W} {v : Option V}, qW K Γ w v → qW K Γ' w v
  | some w, some v, r => relW.mono h r
  | none, _, _ => trivial
  | some _, none, r => r.elim
theorem relR.mono (h : Le Γ Γ') {ρ : List (Option W)} {σ : St} (r : relR K Γ ρ σ) : relR K Γ' ρ σ := Paired.mapP r fun _ _ z => z.mono h
theorem xf.mono {κ : Type} (h : Le Γ Γ') {a : List (κ × W)} {b : List (κ × V)} (r : xf K Γ a b) : xf K Γ' a b := Paired.mapP r fun _ _ z => ⟨z.1, z.2.mono h⟩
theorem relR.get {ρ : List (Option W)} {σ : St} : ∀ {i : Nat} {w : W}, relR K Γ ρ σ → ρ[i]? = some (some w) → ∃ v, σ[i]? = some (some v) ∧ relW K Γ w v := by
  intro i w r
  induction r generalizing i with
  | nil => intro e; simp at e
  | cons h t ih =>
    rename_i x y xs ys
    intro e
    cases i with
    | zero =>
      simp at e
      subst e
      cases y with
      | none => exact h.elim
      | some v => exact ⟨v, rfl, h⟩
    | succ i => simpa using ih (i := i) (by simpa using e)
theorem Paired.getP {α β : Type} {F : α → β → Prop} {xs : List α} {ys : List β} (r : Paired F xs ys) : ∀ {i : Nat} {x : α}, xs[i]? = some x → ∃ y, ys[i]? = some y ∧ F x y := by
  induction r with
  | nil => intro i x e; simp at e
  | cons h t ih =>
    intro i x e
    cases i with
    | zero => simp at e; subst e; exact ⟨_, rfl, h⟩
    | succ i => simpa using ih (i := i) (by simpa using e)
theorem Paired.setP {α β : Type} {F : α → β → Prop} {xs : List α} {ys : List β} {x : α} {y : β} (r : Paired F xs ys) (h : F x y) : ∀ {i : Nat}, Paired F (xs.set i x) (ys.set i y) := by
  induction r with
  | nil => intro i; exact .nil
  | cons g t ih =>
    intro i
    cases i with
    | zero => exact .cons h t
    | succ i => exact .cons g ih
theorem Paired.appP {α β : Type} {F : α → β → Prop} {xs xs' : List α} {ys ys' : List β} (r : Paired F xs ys) (s : Paired F xs' ys') : Paired F (xs ++ xs') (ys ++ ys') := by
  induction r with
  | nil => exact s
  | cons h t ih => exact .cons h ih
theorem xt : ∀ {ds : List PyData} {vs : List V}, Reps K Γ.Z ds vs → relWs K Γ (ds.map .d) vs
  | [], _, h => by rw [show _ = [] from h]; exact .nil
  | d :: ds, _, h => by
    obtain ⟨x, r, rfl, h1, h2⟩ := h
    exact .cons h1 (xt h2)
theorem yG : ∀ {ds : List PyData} {vs : List V}, relWs K Γ (ds.map .d) vs → Reps K Γ.Z ds vs
  | [], _, h => by cases h; rfl
  | d :: ds, _, h => by
    cases h with
    | cons a b => exact ⟨_, _, rfl, a, yG b⟩
noncomputable def yS (O : OM) : W → Option (List W)
  | .d (.list ds) => some (ds.map .d)
  | .own a => match O a with
    | some (.lst ws) => some ws
    | some (.grid rows) => some ((List.range rows.length).map (.row a))
    | _ => none
  | .row a i => match O a with
    | some (.grid rows) => (rows[i]?).map (·.map .d)
    | _ => none
  | _ => none
noncomputable def xz : W → Option (List PyData)
  | .d (.tuple ds) => some ds
  | _ => none
theorem ve {w : W} {v : V} {ds : List PyData} (S : Sim K Γ O H) (r : relW K Γ w v) (e : xz w = some ds) : ∃ a vs, v = .ref a ∧ SqT K H a vs ∧ relWs K Γ (ds.map .d) vs := by
  cases w with
  | d x =>
    cases x with
    | tuple es =>
      simp [xz] at e
      subst e
      obtain ⟨a, xs, e1, h1, h2⟩ := r
      exact ⟨a, xs, e1, h1.same S.z, xt h2⟩
    | _ => simp [xz] at e
  | own a => simp [xz] at e
  | row a i => simp [xz] at e
theorem xM {w : W} {v : V} {ws : List W} (S : Sim K Γ O H) (r : relW K Γ w v) (e : yS O w = some ws) : ∃ a vs, v = .ref a ∧ SqL K H a vs ∧ relWs K Γ ws vs := by
  cases w with
  | d x =>
    cases x with
    | list es =>
      simp [yS] at e
      subst e
      obtain ⟨a, xs, e1, h1, h2⟩ := r
      exact ⟨a, xs, e1, h1.same S.z, xt h2⟩
    | _ => simp [yS] at e
  | own a =>
    cases (show v = .ref a from r)
    simp only [yS] at e
    split at e
    · rename_i us h
      cases e
      obtain ⟨_, vs, h1, h2⟩ := S.o _ _ h
      exact ⟨a, vs, rfl, SqL.of h1, h2⟩
    · rename_i rows h
      cases e
      obtain ⟨_, rs, hg, h1, hl, _, _⟩ := S.o _ _ h
      refine ⟨a, _, rfl, SqL.of h1, ?_⟩
      rw [← hl]
      have key : ∀ (ss : List Addr) (k : Nat), (∀ i, ss[i]? = rs[k + i]?) → relWs K Γ ((List.range' k ss.length).map (W.row a)) (ss.map V.ref) := by
        intro ss
        induction ss with
        | nil => intro k _; exact .nil
        | cons s ss ih =>
          intro k hk
          refine .cons ⟨rs, s, hg, ?_, rfl⟩ (ih (k + 1) fun i => ?_)
          · have := hk 0; simpa using this.symm
          · have := hk (i + 1)
            rw [List.getElem?_cons_succ] at this
            rw [this]
            congr 1
            omega
      have h0 := key rs 0 (fun i => by rw [Nat.zero_add])
      rw [List.range_eq_range']
      exact h0
    · cases e
  | row a i =>
    obtain ⟨rs, r0, hg, hr, rfl⟩ := r
    simp only [yS] at e
    split at e
    · rename_i rows h
      cases hi : rows[i]? with
      | none => rw [hi] at e; cases e
      | some ds =>
        rw [hi] at e
        cases e
        obtain ⟨_, rs', hg', h1, hl, _, hrow⟩ := S.o _ _ h
        rw [hg] at hg'
        cases hg'
        obtain ⟨_, _, vs, h2, h3⟩ := hrow i r0 ds hr hi
        exact ⟨r0, vs, rfl, SqL.of h2, xt h3⟩
    · cases e
noncomputable def yP : List W → Option (List PyData)
  | [] => some []
  | .d x :: ws => (yP ws).map (x :: ·)
  | _ :: _ => none
theorem vJ : ∀ ds : List PyData, yP (ds.map .d) = some ds
  | [] => rfl
  | d :: ds => by simp [yP, vJ ds]
theorem vf : ∀ {ws : List W} {ds : List PyData}, yP ws = some ds → ws = ds.map .d
  | [], ds, e => by cases e; rfl
  | .d x :: ws, ds, e => by
    simp [yP] at e
    obtain ⟨es, h1, h2⟩ := e
    subst h2
    rw [vf h1]
    rfl
  | .own _ :: _, _, e => by simp [yP] at e
  | .row _ _ :: _, _, e => by simp [yP] at e
noncomputable def vv (O : OM) : W → Option PyData
  | .d x => some x
  | .own a => match O a with
    | some (.lst ws) => (yP ws).map .list
    | some (.grid rows) => some (.list (rows.map .list))
    | _ => none
  | .row a i => match O a with
    | some (.grid rows) => (rows[i]?).map .list
    | _ => none
theorem qX {w : W} {v : V} {x : PyData} (S : Sim K Γ O H) (r : relW K Γ w v) (e : vv O w = some x) : Rep K H x v := by
  cases w with
  | d y => cases e; exact Rep.same S.z _ _ r
  | own a =>
    cases (show v = .ref a from r)
    simp only [vv] at e
    split at e
    · rename_i ws h
      cases hd : yP ws with
      | none => rw [hd] at e; cases e
      | some ds =>
        rw [hd] at e
        cases e
        obtain ⟨_, vs, h1, h2⟩ := S.o _ _ h
        rw [vf hd] at h2
        exact ⟨a, vs, rfl, SqL.of h1, Reps.same S.z _ _ (yG h2)⟩
    · rename_i rows h
      cases e
      obtain ⟨_, rs, hg, h1, hl, _, hrow⟩ := S.o _ _ h
      refine ⟨a, _, rfl, SqL.of h1, ?_⟩
      have key : ∀ (rows : List (List PyData)) (rs : List Addr), rs.length = rows.length → (∀ (i : Nat) (r : Addr) (ds : List PyData), rs[i]? = some r → rows[i]? = some ds → ∃ vs, H r = some (.lst vs) ∧ Reps K Γ.Z ds vs) → Reps K H (rows.map .list) (rs.map V.ref) := by
        intro rows
        induction rows with
        | nil => intro rs hl _; cases rs with | nil => rfl | cons _ _ => simp at hl
        | cons row rows ih =>
          intro rs hl hr
          cases rs with
          | nil => simp at hl
          | cons r rs =>
            obtain ⟨vs, h1, h2⟩ := hr 0 r row rfl rfl
            exact ⟨.ref r, _, rfl, ⟨r, vs, rfl, SqL.of h1, Reps.same S.z _ _ h2⟩, ih rs (by simpa using hl) fun i r ds a b => hr (i + 1) r ds (by simpa using a) (by simpa using b)⟩
      exact key rows rs hl fun i r ds a b => (hrow i r ds a b).2.2
    · cases e
  | row a i =>
    obtain ⟨rs, r0, hg, hr, rfl⟩ := r
    simp only [vv] at e
    split at e
    · rename_i rows h
      cases hi : rows[i]? with
      | none => rw [hi] at e; cases e
      | some ds =>
        rw [hi] at e
        cases e
        obtain ⟨_, rs', hg', h1, hl, _, hrow⟩ := S.o _ _ h
        rw [hg] at hg'
        cases hg'
        obtain ⟨_, _, vs, h2, h3⟩ := hrow i r0 ds hr hi
        exact ⟨r0, vs, rfl, SqL.of h2, Reps.same S.z _ _ h3⟩
    · cases e
theorem Sim.free (S : Sim K Γ O H) {p : Addr} (hp : H p = none) : Γ.Z p = none ∧ O p = none ∧ Γ.G p = none := by
  refine ⟨S.z.free hp, ?_, ?_⟩
  · cases e : O p with
    | none => rfl
    | some oo =>
      obtain ⟨_, h⟩ := S.o _ _ e
      cases oo with
      | lst ws => obtain ⟨vs, h1, _⟩ := h; rw [hp] at h1; cases h1
      | dK ws => obtain ⟨vs, h1, _⟩ := h; rw [hp] at h1; cases h1
      | ins C dx ws => obtain ⟨vs, h1, _⟩ := h; rw [hp] at h1; cases h1
      | grid rows => obtain ⟨rs, _, h1, _⟩ := h; rw [hp] at h1; cases h1
  · cases e : Γ.G p with
    | none => rfl
    | some rs =>
      obtain ⟨o, h⟩ := S.gd _ _ e
      rw [hp] at h
      cases h
theorem ObjW.keep {a : Addr} {oo : OO} (h : ObjW K Γ O H a oo) (hl : Le Γ Γ') {O' : OM} (ha : H' a = H a) (hG : Γ'.G a = Γ.G a) (hr : ∀ rs r, Γ.G a = some rs → (∃ rows, oo = .grid rows) → r ∈ rs → H' r = H r ∧ Γ'.Z r = Γ.Z r ∧ O' r = O r) : ObjW K Γ' O' H' a oo := by
  cases oo with
  | lst ws => obtain ⟨vs, h1, h2⟩ := h; exact ⟨vs, by rw [ha]; exact h1, h2.mono hl⟩
  | dK ws => obtain ⟨vs, h1, h2⟩ := h; exact ⟨vs, by rw [ha]; exact h1, h2.mono hl⟩
  | ins C dx ws => obtain ⟨vs, h1, h2⟩ := h; exact ⟨vs, by rw [ha]; exact h1, h2.mono hl⟩
  | grid rows =>
    obtain ⟨rs, hg, h1, h2, hn, h3⟩ := h
    refine ⟨rs, by rw [hG]; exact hg, by rw [ha]; exact h1, h2, hn, fun i r ds e1 e2 => ?_⟩
    obtain ⟨q1, q2, q3⟩ := hr rs r hg ⟨rows, rfl⟩ (List.mem_of_getElem? e1)
    obtain ⟨z1, z2, vs, z3, z4⟩ := h3 i r ds e1 e2
    exact ⟨by rw [q2]; exact z1, by rw [q3]; exact z2, vs, by rw [q1]; exact z3, Reps.same hl.z _ _ z4⟩
theorem Sim.rowIn (S : Sim K Γ O H) {a : Addr} {rows : List (List PyData)} {rs : List Addr} {r : Addr} (ho : O a = some (.grid rows)) (hg : Γ.G a = some rs) (hr : r ∈ rs) : Γ.Z r = none ∧ O r = none ∧ ∃ vs, H r = some (.lst vs) := by
  obtain ⟨_, rs', hg', h1, hl, _, hrow⟩ := S.o _ _ ho
  rw [hg] at hg'
  cases hg'
  obtain ⟨i, hi, rfl⟩ := List.mem_iff_getElem.mp hr
  obtain ⟨z1, z2, vs, z3, _⟩ := hrow i rs[i] (rows[i]'(by omega)) (List.getElem?_eq_getElem hi) (List.getElem?_eq_getElem (by omega))
  exact ⟨z1, z2, vs, z3⟩
theorem Sim.newD (S : Sim K Γ O H) {p : Addr} (hp : H p = none) (o : HO) : Le Γ ⟨upd Γ.Z p o, Γ.G, Γ.F⟩ ∧ Sim K ⟨upd Γ.Z p o, Γ.G, Γ.F⟩ O (upd H p o) := by
  obtain ⟨hz, hO, hG⟩ := S.free hp
  have le : Le Γ ⟨upd Γ.Z p o, Γ.G, Γ.F⟩ := Le.zOnly (xG hz)
  have hF := S.f.free hp
  refine ⟨le, ⟨fun b u e => ?_, fun a oo e => ?_, fun a rs e => ?_, vH S.f hF, S.gn, S.fg, fun a o' e => ?_, S.u⟩⟩
  · replace e : upd Γ.Z p o b = some u := e
    by_cases hb : b = p
    · subst hb; rw [zX] at e; rw [zX]; exact e
    · rw [zm hb] at e; rw [zm hb]; exact S.z _ _ e
  · have hap : a ≠ p := fun z => by rw [z, hO] at e; cases e
    obtain ⟨h1, h2⟩ := S.o _ _ e
    refine ⟨by show upd Γ.Z p o a = none; rw [zm hap]; exact h1, h2.keep le (zm hap) rfl fun rs r hg ⟨rows, hrw⟩ hr => ?_⟩
    subst hrw
    obtain ⟨_, _, vs, q⟩ := S.rowIn e hg hr
    have hrp : r ≠ p := fun z => by rw [z, hp] at q; cases q
    exact ⟨zm hrp, zm hrp, rfl⟩
  · obtain ⟨o', h⟩ := S.gd _ _ e
    exact ⟨o', by rw [zm (yU h hp)]; exact h⟩
  · obtain ⟨q1, q2, q3⟩ := S.fd a o' e
    exact ⟨(zm (yU e hF)).trans q1, q2, q3⟩
theorem Sim.newO (S : Sim K Γ O H) {p : Addr} (hp : H p = none) {o : HO} {oo : OO} (hg : ∀ rows, oo ≠ .grid rows) (ho : ObjW K Γ O (upd H p o) p oo) : Sim K Γ (updO O p oo) (upd H p o) := by
  obtain ⟨hz, hO, hG⟩ := S.free hp
  have hF := S.f.free hp
  have k1 : ∀ {x : Addr} {rx : List (List PyData)}, updO O p oo x = some (.grid rx) → O x = some (.grid rx) := fun {x rx} h => by
    by_cases hx : x = p
    · subst hx; rw [zn] at h; cases h; exact absurd rfl (hg rx)
    · rw [zi hx] at h; exact h
  refine ⟨fun b u e => ?_, fun a o' e => ?_, fun a rs e => ?_, vH S.f hF, fun a o' e hn => ?_, S.fg, fun a o' e => ?_, fun a b ra rb rs ss r e1 e2 => S.u a b ra rb rs ss r (k1 e1) (k1 e2)⟩
  · rw [zm (fun z => by rw [z, hz] at e; cases e)]; exact S.z _ _ e
  · by_cases hap : a = p
    · subst hap
      rw [zn] at e
      cases e
      refine ⟨hz, ho.keep (Le.refl _) rfl rfl fun rs r h1 ⟨rows, h2⟩ => absurd h2 (hg rows)⟩
    · rw [zi hap] at e
      obtain ⟨h1, h2⟩ := S.o _ _ e
      refine ⟨h1, h2.keep (Le.refl _) (zm hap) rfl fun rs r hg' ⟨rows, hrw⟩ hr => ?_⟩
      subst hrw
      obtain ⟨_, q2, vs, q⟩ := S.rowIn e hg' hr
      have hrp : r ≠ p := fun z => by rw [z, hp] at q; cases q
      exact ⟨zm hrp, rfl, zi hrp⟩
  · obtain ⟨o', h⟩ := S.gd _ _ e
    exact ⟨o', by rw [zm (yU h hp)]; exact h⟩
  · by_cases hap : a = p
    · rw [hap]; exact hG
    · rw [zi hap] at e; exact S.gn a o' e hn
  · obtain ⟨q1, q2, q3⟩ := S.fd a o' e
    exact ⟨q1, by rw [zi (yU e hF)]; exact q2, fun b rows rs e1 => q3 b rows rs (k1 e1)⟩
theorem Sim.put (S : Sim K Γ O H) {a : Addr} {oo o1 : OO} {o : HO} (h0 : O a = some o1) (hn : ∀ rows, o1 ≠ .grid rows) (hg : ∀ rows, oo ≠ .grid rows) (ho : ObjW K Γ O (upd H a o) a oo) : Sim K Γ (updO O a oo) (upd H a o) := by
  obtain ⟨hz, h1⟩ := S.o _ _ h0
  have k1 : ∀ {x : Addr} {rx : List (List PyData)}, updO O a oo x = some (.grid rx) → O x = some (.grid rx) := fun {x rx} h => by
    by_cases hx : x = a
    · subst hx; rw [zn] at h; cases h; exact absurd rfl (hg rx)
    · rw [zi hx] at h; exact h
  have nF : ∀ b o', Γ.F b = some o' → b ≠ a := fun b o' e z => by
    have := (S.fd b o' e).2.1
    rw [z, h0] at this; cases this
  refine ⟨fun b u e => ?_, fun x o' e => ?_, fun x rs e => ?_, fun b u e => ?_, fun x o' e hn' => ?_, S.fg, fun x o' e => ?_, fun x b ra rb rs ss r e1 e2 => S.u x b ra rb rs ss r (k1 e1) (k1 e2)⟩
  · rw [zm (fun z => by rw [z, hz] at e; cases e)]; exact S.z _ _ e
  · by_cases hap : x = a
    · subst hap
      rw [zn] at e
      cases e
      exact ⟨hz, ho.keep (Le.refl _) rfl rfl fun rs r h1 ⟨rows, h2⟩ => absurd h2 (hg rows)⟩
    · rw [zi hap] at e
      obtain ⟨h1, h2⟩ := S.o _ _ e
      refine ⟨h1, h2.keep (Le.refl _) (zm hap) rfl fun rs r hg' ⟨rows, hrw⟩ hr => ?_⟩
      subst hrw
      obtain ⟨_, q2, vs, q⟩ := S.rowIn e hg' hr
      have hrp : r ≠ a := fun z => by rw [z, h0] at q2; cases q2
      exact ⟨zm hrp, rfl, zi hrp⟩
  · obtain ⟨o', h⟩ := S.gd _ _ e
    by_cases hx : x = a
    · exact ⟨o, by rw [hx, zX]⟩
    · exact ⟨o', by rw [zm hx]; exact h⟩
  · rw [zm (nF _ _ e)]; exact S.f _ _ e
  · by_cases hap : x = a
    · rw [hap]; exact S.gn a o1 h0 hn
    · rw [zi hap] at e; exact S.gn x o' e hn'
  · obtain ⟨q1, q2, q3⟩ := S.fd x o' e
    exact ⟨q1, by rw [zi (nF _ _ e)]; exact q2, fun b rows rs e1 => q3 b rows rs (k1 e1)⟩
theorem Sim.drop (S : Sim K Γ O H) (a : Addr) : Sim K Γ (del O a) H := by
  have k1 : ∀ {x : Addr} {o : OO}, del O a x = some o → x ≠ a ∧ O x = some o := fun {x o} h => by
    by_cases hx : x = a
    · subst hx; rw [xH] at h; cases h
    · rw [x8 hx] at h; exact ⟨hx, h⟩
  refine ⟨S.z, fun x o e => ?_, S.gd, S.f, fun x o e hn => S.gn x o (k1 e).2 hn, S.fg, fun x o e => ⟨(S.fd x o e).1, by unfold del; split; rfl; exact (S.fd x o e).2.1, fun b rows rs e1 => (S.fd x o e).2.2 b rows rs (k1 e1).2⟩, fun x b ra rb rs ss r e1 e2 => S.u x b ra rb rs ss r (k1 e1).2 (k1 e2).2⟩
  obtain ⟨hx, e⟩ := k1 e
  obtain ⟨h1, h2⟩ := S.o _ _ e
  refine ⟨h1, h2.keep (Le.refl _) rfl rfl fun rs r hg ⟨rows, hrw⟩ hr => ?_⟩
  subst hrw
  obtain ⟨_, q2, _⟩ := S.rowIn e hg hr
  refine ⟨rfl, rfl, ?_⟩
  rw [q2]
  unfold del
  split
  · rfl
  · exact q2
theorem Sim.freeze (S : Sim K Γ O H) {a : Addr} {ds : List PyData} (h : O a = some (.lst (ds.map .d))) : ∃ Γ', Le Γ Γ' ∧ Sim K Γ' (del O a) H ∧ relW K Γ' (.d (.list ds)) (.ref a) := by
  obtain ⟨hz, vs, h1, h2⟩ := S.o _ _ h
  have le : Le Γ ⟨upd Γ.Z a (.lst vs), Γ.G, Γ.F⟩ := Le.zOnly (xG hz)
  have S1 := S.drop a
  have nF : ∀ b o', Γ.F b = some o' → b ≠ a := fun b o' e z => by
    have := (S.fd b o' e).2.1
    rw [z, h] at this; cases this
  refine ⟨⟨upd Γ.Z a (.lst vs), Γ.G, Γ.F⟩, le, ⟨fun b u e => ?_, fun x o e => ?_, S.gd, S.f, S1.gn, S.fg, fun x o e => ⟨(zm (nF x o e)).trans (S1.fd x o e).1, (S1.fd x o e).2⟩, S1.u⟩, ⟨a, vs, rfl, SqL.of zX, Reps.same le.z _ _ (yG h2)⟩⟩
  · replace e : upd Γ.Z a (.lst vs) b = some u := e
    by_cases hb : b = a
    · subst hb; rw [zX] at e; cases e; exact h1
    · rw [zm hb] at e; exact S.z _ _ e
  · have hx : x ≠ a := fun z => by rw [z, xH] at e; cases e
    obtain ⟨q1, q2⟩ := S1.o _ _ e
    refine ⟨by show upd Γ.Z a _ x = none; rw [zm hx]; exact q1, q2.keep le rfl rfl fun rs r hg ⟨rows, hrw⟩ hr => ⟨rfl, ?_, rfl⟩⟩
    subst hrw
    rw [x8 hx] at e
    obtain ⟨_, q2, _⟩ := S.rowIn e hg hr
    exact zm (fun z => by rw [z, h] at q2; cases q2)
theorem Sim.cell (S : Sim K Γ O H) {a r : Addr} {rows : List (List PyData)} {rs : List Addr} {i j : Nat} {ds : List PyData} {vs : List V} {x : PyData} {v : V} (h0 : O a = some (.grid rows)) (hg : Γ.G a = some rs) (hr : rs[i]? = some r) (hd : rows[i]? = some ds)
    (hv : H r = some (.lst vs)) (rx : Rep K Γ.Z x v) : Sim K Γ (updO O a (.grid (rows.set i (ds.set j x)))) (upd H r (.lst (vs.set j v))) := by
  obtain ⟨hz, rs', hg', h1, hl, hn, hrow⟩ := S.o _ _ h0
  rw [hg] at hg'
  cases hg'
  obtain ⟨z1, z2, vs', z3, z4⟩ := hrow i r ds hr hd
  rw [hv] at z3
  cases z3
  have har : a ≠ r := fun e => by rw [← e, h0] at z2; cases z2
  have nF : ∀ b o', Γ.F b = some o' → b ≠ r := fun b o' e z => (S.fd b o' e).2.2 a rows rs h0 hg (by rw [z]; exact List.mem_of_getElem? hr)
  have nFa : ∀ b o', Γ.F b = some o' → b ≠ a := fun b o' e z => by
    have := (S.fd b o' e).2.1
    rw [z, h0] at this; cases this
  have kg : ∀ {b : Addr} {rb : List (List PyData)}, updO O a (.grid (rows.set i (ds.set j x))) b = some (.grid rb) → ∃ ry, O b = some (.grid ry) := fun {b rb} e1 => by
    by_cases hx : b = a
    · exact ⟨rows, by rw [hx]; exact h0⟩
    · rw [zi hx] at e1; exact ⟨rb, e1⟩
  refine ⟨fun b u e => ?_, fun b oo e => ?_, fun b ss e => ?_, fun b u e => by rw [zm (nF _ _ e)]; exact S.f _ _ e, fun b o' e hn' => ?_, S.fg, fun b o' e => ⟨(S.fd b o' e).1, by rw [zi (nFa _ _ e)]; exact (S.fd b o' e).2.1, fun c rc ss e1 g1 => by obtain ⟨ry, e2⟩ := kg e1; exact (S.fd b o' e).2.2 c ry ss e2 g1⟩, fun b c rb rc ss tt q e1 e2 h3 h4 h5 h6 => ?_⟩
  · rw [zm (fun z => by rw [z, z1] at e; cases e)]; exact S.z _ _ e
  · by_cases hb : b = a
    · subst hb
      rw [zn] at e
      cases e
      refine ⟨hz, rs, hg, by rw [zm har]; exact h1, by rw [List.length_set]; exact hl, hn, fun k q es e1 e2 => ?_⟩
      have hq : O q = none := (S.rowIn h0 hg (List.mem_of_getElem? e1)).2.1
      have hqb : q ≠ b := fun e => by rw [e, h0] at hq; cases hq
      by_cases hk : k = i
      · subst hk
        rw [hr] at e1
        cases e1
        rw [List.getElem?_set_self (List.getElem?_eq_some_iff.mp hd).1] at e2
        cases e2
        refine ⟨z1, by rw [zi hqb]; exact z2, _, zX, ?_⟩
        have hw := xt (Γ := Γ) z4
        have hw2 := Paired.setP hw (show relW K Γ (.d x) v from rx) (i := j)
        rw [← List.map_set] at hw2
        exact yG hw2
      · have hne : q ≠ r := fun e => by
          rw [e] at e1
          obtain ⟨l1, g1⟩ := List.getElem?_eq_some_iff.mp e1
          obtain ⟨l2, g2⟩ := List.getElem?_eq_some_iff.mp hr
          exact hk ((List.getElem_inj hn).mp (g1.trans g2.symm))
        rw [List.getElem?_set_ne (Ne.symm hk)] at e2
        obtain ⟨y1, y2, ws, y3, y4⟩ := hrow k q es e1 e2
        exact ⟨y1, by rw [zi hqb]; exact y2, ws, by rw [zm hne]; exact y3, y4⟩
    · rw [zi hb] at e
      obtain ⟨q1, q2⟩ := S.o _ _ e
      have hbr : b ≠ r := fun z => by rw [z, z2] at e; cases e
      refine ⟨q1, q2.keep (Le.refl _) (zm hbr) rfl fun ss q hgs ⟨rows', hrw⟩ hq => ?_⟩
      subst hrw
      obtain ⟨w1, w2, ws, w3⟩ := S.rowIn e hgs hq
      have hqr : q ≠ r := fun z => hb (S.u b a rows' rows ss rs q e h0 hgs hg hq (by rw [z]; exact List.mem_of_getElem? hr))
      exact ⟨zm hqr, rfl, zi (fun z => by rw [z, h0] at w2; cases w2)⟩
  · obtain ⟨o, h⟩ := S.gd _ _ e
    by_cases hb : b = r
    · exact ⟨_, by rw [hb, zX]⟩
    · exact ⟨o, by rw [zm hb]; exact h⟩
  · by_cases hb : b = a
    · subst hb; rw [zn] at e; cases e; exact absurd rfl (hn' _)
    · rw [zi hb] at e; exact S.gn b o' e hn'
  · obtain ⟨r1, f1⟩ := kg e1
    obtain ⟨r2, f2⟩ := kg e2
    exact S.u b c r1 r2 ss tt q f1 f2 h3 h4 h5 h6
theorem Sim.newGrid (S : Sim K Γ O H) {p : Addr} (hp : H p = none) : ∃ Γ', Le Γ Γ' ∧ Sim K Γ' (updO O p (.grid [])) (upd H p (.lst [])) := by
  obtain ⟨hz, hO, hG⟩ := S.free hp
  have le : Le Γ ⟨Γ.Z, fun b => if b = p then some [] else Γ.G b, Γ.F⟩ := ⟨rfl, Same.refl _, fun a rs h => ⟨[], by
    have : a ≠ p := fun e => by rw [e, hG] at h; cases h
    simp [this, h]⟩⟩
  have hF := S.f.free hp
  refine ⟨_, le, ⟨fun b u e => ?_, fun a oo e => ?_, fun a rs e => ?_, vH S.f hF, fun a o e hn => ?_, fun a o e => by have hne := yU e hF; simpa [hne] using S.fg a o e, fun a o e => ⟨(S.fd a o e).1, by rw [zi (yU e hF)]; exact (S.fd a o e).2.1, fun b rows rs e1 g1 => ?_⟩, fun a b ra rb rs ss r e1 e2 g1 g2 m1 m2 => ?_⟩⟩
  · rw [zm (fun z => by rw [z, show ({ Z := Γ.Z, G := fun b => if b = p then some [] else Γ.G b, F := Γ.F } : Gh).Z p = none from hz] at e; cases e)]; exact S.z _ _ e
  · by_cases hap : a = p
    · subst hap
      rw [zn] at e
      cases e
      exact ⟨hz, [], by simp, zX, rfl, .nil, fun i r ds h => by simp at h⟩
    · rw [zi hap] at e
      obtain ⟨h1, h2⟩ := S.o _ _ e
      refine ⟨h1, h2.keep le (zm hap) (by simp [hap]) fun rs r hg ⟨rows, hrw⟩ hr => ?_⟩
      subst hrw
      obtain ⟨_, q2, vs, q⟩ := S.rowIn e hg hr
      have hrp : r ≠ p := fun z => by rw [z, hp] at q; cases q
      exact ⟨zm hrp, rfl, zi hrp⟩
  · by_cases hap : a = p
    · exact ⟨_, by rw [hap, zX]⟩
    · obtain ⟨o, h⟩ := S.gd a rs (by simpa [hap] using e)
      exact ⟨o, by rw [zm hap]; exact h⟩
  · by_cases hap : a = p
    · subst hap; rw [zn] at e; cases e; exact absurd rfl (hn _)
    · rw [zi hap] at e
      simpa [hap] using S.gn a o e hn
  · by_cases hb : b = p
    · subst hb; simp at g1; subst g1; simp
    · rw [zi hb] at e1
      exact (S.fd a o e).2.2 b rows rs e1 (by simpa [hb] using g1)
  · by_cases ha : a = p
    · subst ha; simp at g1; subst g1; cases m1
    · by_cases hb : b = p
      · subst hb; simp at g2; subst g2; cases m2
      · rw [zi ha] at e1
        rw [zi hb] at e2
        exact S.u a b ra rb rs ss r e1 e2 (by simpa [ha] using g1) (by simpa [hb] using g2) m1 m2
theorem Sim.absorb (S : Sim K Γ O H) {a b : Addr} {rows : List (List PyData)} {rs : List Addr} {ds : List PyData} (h0 : O a = some (.grid rows)) (hg : Γ.G a = some rs) (hb : O b = some (.lst (ds.map .d))) :
    H a = some (.lst (rs.map V.ref)) ∧ rs.length = rows.length ∧ ∃ Γ', Le Γ Γ' ∧ Sim K Γ' (updO (del O b) a (.grid (rows ++ [ds]))) (upd H a (.lst (rs.map V.ref ++ [.ref b]))) := by
  obtain ⟨hz, rs', hg', h1, hl, hn, hrow⟩ := S.o _ _ h0
  rw [hg] at hg'
  cases hg'
  obtain ⟨hzb, vb, hb1, hb2⟩ := S.o _ _ hb
  have hab : a ≠ b := fun e => by rw [e, hb] at h0; cases h0
  have hbr : b ∉ rs := fun m => by
    obtain ⟨_, q, _⟩ := S.rowIn h0 hg m
    rw [hb] at q; cases q
  have le : Le Γ ⟨Γ.Z, fun x => if x = a then some (rs ++ [b]) else Γ.G x, Γ.F⟩ := ⟨rfl, Same.refl _, fun x ss h => by
    by_cases hx : x = a
    · subst hx; rw [hg] at h; cases h; exact ⟨[b], by simp⟩
    · exact ⟨[], by simp [hx, h]⟩⟩
  have nFa : ∀ c o', Γ.F c = some o' → c ≠ a := fun c o' e z => by
    have := (S.fd c o' e).2.1
    rw [z, h0] at this; cases this
  have nFb : ∀ c o', Γ.F c = some o' → c ≠ b := fun c o' e z => by
    have := (S.fd c o' e).2.1
    rw [z, hb] at this; cases this
  have k1 : ∀ {x : Addr} {rx : List (List PyData)}, updO (del O b) a (.grid (rows ++ [ds])) x = some (.grid rx) → ∃ ry, O x = some (.grid ry) := fun {x rx} h => by
    by_cases hx : x = a
    · exact ⟨rows, by rw [hx]; exact h0⟩
    · rw [zi hx] at h
      by_cases hxb : x = b
      · rw [hxb, xH] at h; cases h
      · rw [x8 hxb] at h; exact ⟨rx, h⟩
  refine ⟨h1, hl, _, le, ⟨fun x u e => ?_, fun x oo e => ?_, fun x ss e => ?_, fun c u e => by rw [zm (nFa _ _ e)]; exact S.f _ _ e, fun x o' e hn' => ?_, fun c o' e => by have hne := nFa c o' e; simpa [hne] using S.fg c o' e, fun c o' e => ⟨(S.fd c o' e).1, by rw [zi (nFa _ _ e), x8 (nFb _ _ e)]; exact (S.fd c o' e).2.1, fun d rd ss e1 g1 => ?_⟩, fun x y ra rb ss tt r e1 e2 g1 g2 m1 m2 => ?_⟩⟩
  · rw [zm (fun z => by rw [z, show ({ Z := Γ.Z, G := fun x => if x = a then some (rs ++ [b]) else Γ.G x, F := Γ.F } : Gh).Z a = none from hz] at e; cases e)]; exact S.z _ _ e
  · by_cases hx : x = a
    · subst hx
      rw [zn] at e
      cases e
      refine ⟨hz, rs ++ [b], by simp, by rw [zX, List.map_append]; rfl, by simp [hl], ?_, fun i r es e1 e2 => ?_⟩
      · rw [List.nodup_append]
        exact ⟨hn, by simp, fun u hu v hv => by simp at hv; subst hv; exact fun z => hbr (by rw [← z]; exact hu)⟩
      · by_cases hi : i < rs.length
        · rw [List.getElem?_append_left hi] at e1
          rw [List.getElem?_append_left (by omega)] at e2
          obtain ⟨y1, y2, ws, y3, y4⟩ := hrow i r es e1 e2
          have hrx : r ≠ x := fun z => by rw [z, h0] at y2; cases y2
          refine ⟨y1, ?_, ws, by rw [zm hrx]; exact y3, y4⟩
          rw [zi hrx]
          unfold del
          split
          · rfl
          · exact y2
        · have hi2 : i = rs.length := by
            have := (List.getElem?_eq_some_iff.mp e1).1
            simp at this; omega
          subst hi2
          rw [List.getElem?_append_right (Nat.le_refl _)] at e1
          simp at e1
          subst e1
          rw [hl, List.getElem?_append_right (Nat.le_refl _)] at e2
          simp at e2
          subst e2
          exact ⟨hzb, by rw [zi (Ne.symm hab), xH], vb, by rw [zm (Ne.symm hab)]; exact hb1, yG (Γ := Γ) hb2⟩
    · rw [zi hx] at e
      have hxb : x ≠ b := fun z => by rw [z, xH] at e; cases e
      rw [x8 hxb] at e
      obtain ⟨q1, q2⟩ := S.o _ _ e
      refine ⟨q1, q2.keep le (zm hx) (by simp [hx]) fun ss r hgs ⟨rows', hrw⟩ hq => ?_⟩
      subst hrw
      obtain ⟨w1, w2, ws, w3⟩ := S.rowIn e hgs hq
      have hra : r ≠ a := fun z => by rw [z, h0] at w2; cases w2
      have hrb : r ≠ b := fun z => by rw [z, hb] at w2; cases w2
      exact ⟨zm hra, rfl, by rw [zi hra, x8 hrb]⟩
  · by_cases hx : x = a
    · exact ⟨_, by rw [hx, zX]⟩
    · obtain ⟨o, h⟩ := S.gd x ss (by simpa [hx] using e)
      exact ⟨o, by rw [zm hx]; exact h⟩
  · by_cases hx : x = a
    · subst hx; rw [zn] at e; cases e; exact absurd rfl (hn' _)
    · rw [zi hx] at e
      by_cases hxb : x = b
      · rw [hxb, xH] at e; cases e
      · rw [x8 hxb] at e
        simpa [hx] using S.gn x o' e hn'
  · by_cases hd : d = a
    · subst hd
      simp at g1
      subst g1
      intro m
      rcases List.mem_append.mp m with m | m
      · exact (S.fd c o' e).2.2 d rows rs h0 hg m
      · simp at m; exact nFb _ _ e m
    · obtain ⟨ry, e2⟩ := k1 e1
      exact (S.fd c o' e).2.2 d ry ss e2 (by simpa [hd] using g1)
  · obtain ⟨r1, f1⟩ := k1 e1
    obtain ⟨r2, f2⟩ := k1 e2
    have nb : ∀ {z : Addr} {rz : List (List PyData)} {sz : List Addr}, O z = some (.grid rz) → Γ.G z = some sz → b ∉ sz := fun hz1 hz2 m => by
      obtain ⟨_, q, _⟩ := S.rowIn hz1 hz2 m
      rw [hb] at q; cases q
    by_cases hx : x = a
    · by_cases hy : y = a
      · rw [hx, hy]
      · have g2' : Γ.G y = some tt := by simpa [hy] using g2
        rw [hx] at g1 ⊢
        simp at g1
        subst g1
        rcases List.mem_append.mp m1 with m | m
        · exact S.u a y rows r2 rs tt r h0 f2 hg g2' m m2
        · simp at m; subst m; exact absurd m2 (nb f2 g2')
    · have g1' : Γ.G x = some ss := by simpa [hx] using g1
      by_cases hy : y = a
      · rw [hy] at g2 ⊢
        simp at g2
        subst g2
        rcases List.mem_append.mp m2 with m | m
        · exact S.u x a r1 rows ss rs r f1 h0 g1' hg m1 m
        · simp at m; subst m; exact absurd m1 (nb f1 g1')
      · exact S.u x y r1 r2 ss tt r f1 f2 g1' (by simpa [hy] using g2) m1 m2
theorem relW.setF {F : Hp} : ∀ {w : W} {v : V}, relW K Γ w v → relW K ⟨Γ.Z, Γ.G, F⟩ w v
  | .d _, _, h => h
  | .own _, _, h => h
  | .row _ _, _, h => h
theorem relR.setF {F : Hp} {ρ : List (Option W)} {σ : St} (r : relR K Γ ρ σ) : relR K ⟨Γ.Z, Γ.G, F⟩ ρ σ := Paired.mapP r fun a b h => by
  cases a with
  | none => trivial
  | some w => cases b with
    | none => exact h
    | some v => exact relW.setF h
theorem ObjW.setF {F : Hp} {a : Addr} {oo : OO} (h : ObjW K Γ O H a oo) : ObjW K ⟨Γ.Z, Γ.G, F⟩ O H a oo := by
  cases oo with
  | lst ws => obtain ⟨vs, h1, h2⟩ := h; exact ⟨vs, h1, Paired.mapP h2 fun _ _ z => z.setF⟩
  | dK ws => obtain ⟨vs, h1, h2⟩ := h; exact ⟨vs, h1, Paired.mapP h2 fun _ _ z => ⟨z.1, z.2.setF⟩⟩
  | ins C dx ws => obtain ⟨vs, h1, h2⟩ := h; exact ⟨vs, h1, Paired.mapP h2 fun _ _ z => ⟨z.1, z.2.setF⟩⟩
  | grid rows => exact h
theorem Sim.frameNew (S : Sim K Γ O H) {p : Addr} (hp : H p = none) (o : HO) : Sim K ⟨Γ.Z, Γ.G, upd Γ.F p o⟩ O (upd H p o) := by
  obtain ⟨hz, hO, hG⟩ := S.free hp
  have key : ∀ a o', upd Γ.F p o a = some o' → a = p ∨ (a ≠ p ∧ Γ.F a = some o') := fun a o' e => by
    by_cases ha : a = p
    · exact .inl ha
    · rw [zm ha] at e; exact .inr ⟨ha, e⟩
  refine ⟨fun b u e => ?_, fun a oo e => ?_, fun a rs e => ?_, fun b u e => ?_, S.gn, fun a o' e => ?_, fun a o' e => ?_, S.u⟩
  · rw [zm (fun z => by rw [z, show ({ Z := Γ.Z, G := Γ.G, F := upd Γ.F p o } : Gh).Z p = none from hz] at e; cases e)]; exact S.z _ _ e
  · have hap : a ≠ p := fun z => by rw [z, hO] at e; cases e
    obtain ⟨h1, h2⟩ := S.o _ _ e
    refine ⟨h1, (h2.keep (Le.refl _) (zm hap) rfl fun rs r hg ⟨rows, hrw⟩ hr => ?_).setF⟩
    subst hrw
    obtain ⟨_, _, vs, q⟩ := S.rowIn e hg hr
    exact ⟨zm (fun z => by rw [z, hp] at q; cases q), rfl, rfl⟩
  · obtain ⟨o', h⟩ := S.gd _ _ e
    exact ⟨o', by rw [zm (yU h hp)]; exact h⟩
  · replace e : upd Γ.F p o b = some u := e
    rcases key b u e with rfl | ⟨hb, e'⟩
    · rw [zX] at e ⊢; exact e
    · rw [zm hb]; exact S.f _ _ e'
  · rcases key a o' e with rfl | ⟨hb, e'⟩
    · exact hG
    · exact S.fg _ _ e'
  · rcases key a o' e with rfl | ⟨hb, e'⟩
    · refine ⟨hz, hO, fun b rows rs e1 g1 m => ?_⟩
      obtain ⟨_, _, vs, q⟩ := S.rowIn e1 g1 m
      rw [hp] at q; cases q
    · exact S.fd _ _ e'
theorem Sim.framePut (S : Sim K Γ O H) {a : Addr} {o1 : HO} (h : Γ.F a = some o1) (o : HO) : Sim K ⟨Γ.Z, Γ.G, upd Γ.F a o⟩ O (upd H a o) := by
  obtain ⟨hz, hO, hr⟩ := S.fd _ _ h
  have hG := S.fg _ _ h
  have key : ∀ b o', upd Γ.F a o b = some o' → b = a ∨ (b ≠ a ∧ Γ.F b = some o') := fun b o' e => by
    by_cases ha : b = a
    · exact .inl ha
    · rw [zm ha] at e; exact .inr ⟨ha, e⟩
  refine ⟨fun b u e => ?_, fun b oo e => ?_, fun b rs e => ?_, fun b u e => ?_, S.gn, fun b o' e => ?_, fun b o' e => ?_, S.u⟩
  · rw [zm (fun z => by rw [z, show ({ Z := Γ.Z, G := Γ.G, F := upd Γ.F a o } : Gh).Z a = none from hz] at e; cases e)]; exact S.z _ _ e
  · have hap : b ≠ a := fun z => by rw [z, hO] at e; cases e
    obtain ⟨h1, h2⟩ := S.o _ _ e
    refine ⟨h1, (h2.keep (Le.refl _) (zm hap) rfl fun rs r hg ⟨rows, hrw⟩ hm => ?_).setF⟩
    subst hrw
    exact ⟨zm (fun z => hr b rows rs e hg (by rw [← z]; exact hm)), rfl, rfl⟩
  · obtain ⟨o', h⟩ := S.gd _ _ e
    by_cases hb : b = a
    · exact ⟨o, by rw [hb, zX]⟩
    · exact ⟨o', by rw [zm hb]; exact h⟩
  · replace e : upd Γ.F a o b = some u := e
    rcases key b u e with rfl | ⟨hb, e'⟩
    · rw [zX] at e ⊢; exact e
    · rw [zm hb]; exact S.f _ _ e'
  · rcases key b o' e with rfl | ⟨hb, e'⟩
    · exact hG
    · exact S.fg _ _ e'
  · rcases key b o' e with rfl | ⟨hb, e'⟩
    · exact ⟨hz, hO, hr⟩
    · exact S.fd _ _ e'
theorem Sim.frameOwn (S : Sim K Γ O H) {a : Addr} {ws : List W} (h : O a = some (.lst ws)) : ∃ vs, H a = some (.lst vs) ∧ relWs K Γ ws vs ∧ Sim K ⟨Γ.Z, Γ.G, upd Γ.F a (.lst vs)⟩ (del O a) H := by
  obtain ⟨hz, vs, h1, h2⟩ := S.o _ _ h
  have hG := S.gn _ _ h (by intro _ z; cases z)
  have S1 := S.drop a
  have key : ∀ b o', upd Γ.F a (.lst vs) b = some o' → b = a ∨ (b ≠ a ∧ Γ.F b = some o') := fun b o' e => by
    by_cases ha : b = a
    · exact .inl ha
    · rw [zm ha] at e; exact .inr ⟨ha, e⟩
  refine ⟨vs, h1, h2, ⟨S.z, fun b oo e => ⟨(S1.o b oo e).1, (S1.o b oo e).2.setF⟩, S.gd, fun b u e => ?_, S1.gn, fun b o' e => ?_, fun b o' e => ?_, S1.u⟩⟩
  · replace e : upd Γ.F a (.lst vs) b = some u := e
    rcases key b u e with rfl | ⟨hb, e'⟩
    · rw [zX] at e; cases e; exact h1
    · exact S.f _ _ e'
  · rcases key b o' e with rfl | ⟨hb, e'⟩
    · exact hG
    · exact S.fg _ _ e'
  · rcases key b o' e with rfl | ⟨hb, e'⟩
    · refine ⟨hz, xH, fun c rows rs e1 g1 m => ?_⟩
      obtain ⟨_, q, _⟩ := S1.rowIn e1 g1 m
      have hc : c ≠ b := fun z => by rw [z, xH] at e1; cases e1
      rw [x8 hc] at e1
      have := (S.rowIn e1 g1 m).2.1
      rw [h] at this; cases this
    · exact S1.fd _ _ e'
theorem Sim.unframe (S : Sim K Γ O H) {a : Addr} {ds : List PyData} {vs : List V} {F : Hp} (hF : Γ.F = upd F a (.lst vs)) (h0 : F a = none) (hr : Reps K Γ.Z ds vs) :
    Same Γ.Z (upd Γ.Z a (.lst vs)) ∧ Sim K ⟨upd Γ.Z a (.lst vs), Γ.G, F⟩ O H ∧ relW K ⟨upd Γ.Z a (.lst vs), Γ.G, F⟩ (.d (.list ds)) (.ref a) := by
  have hFa : Γ.F a = some (.lst vs) := by rw [hF, zX]
  obtain ⟨hz, hO, hrow⟩ := S.fd _ _ hFa
  have le : Le Γ ⟨upd Γ.Z a (.lst vs), Γ.G, Γ.F⟩ := Le.zOnly (xG hz)
  have kF : ∀ b o, F b = some o → b ≠ a ∧ Γ.F b = some o := fun b o e => by
    have hb : b ≠ a := fun z => by rw [z, h0] at e; cases e
    exact ⟨hb, by rw [hF, zm hb]; exact e⟩
  refine ⟨xG hz, ⟨fun b u e => ?_, fun b oo e => ?_, S.gd, fun b u e => S.f _ _ (kF b u e).2, S.gn, fun b o e => S.fg b o (kF b o e).2, fun b o e => ⟨(zm (kF b o e).1).trans (S.fd b o (kF b o e).2).1, (S.fd b o (kF b o e).2).2⟩, S.u⟩, ⟨a, vs, rfl, SqL.of zX, Reps.same (xG hz) _ _ hr⟩⟩
  · replace e : upd Γ.Z a (.lst vs) b = some u := e
    by_cases hb : b = a
    · subst hb; rw [zX] at e; cases e; exact S.f _ _ hFa
    · rw [zm hb] at e; exact S.z _ _ e
  · obtain ⟨q1, q2⟩ := S.o _ _ e
    have hb : b ≠ a := fun z => by rw [z, hO] at e; cases e
    refine ⟨(zm hb).trans q1, (q2.keep le rfl rfl fun rs r hg ⟨rows, hrw⟩ hm => ⟨rfl, ?_, rfl⟩).setF⟩
    subst hrw
    exact zm (fun z => hrow b rows rs e hg (by rw [← z]; exact hm))
theorem Sim.gridify (S : Sim K Γ O H) {a : Addr} {rs : List Addr} {rows : List (List PyData)} {F : Hp} (h0 : F a = none) (hFa : Γ.F a = some (.lst (rs.map V.ref))) (hn : rs.Nodup) (har : a ∉ rs) (hl : rs.length = rows.length)
    (hrow : ∀ (i : Nat) (r : Addr) (ds : List PyData), rs[i]? = some r → rows[i]? = some ds → F r = none ∧ ∃ vs, Γ.F r = some (.lst vs) ∧ Reps K Γ.Z ds vs) (hF : ∀ x, x ≠ a → x ∉ rs → Γ.F x = F x) :
    O a = none ∧ ∃ G', (∀ b ss, Γ.G b = some ss → G' b = some ss) ∧ Sim K ⟨Γ.Z, G', F⟩ (updO O a (.grid rows)) H := by
  obtain ⟨hz, hO, _⟩ := S.fd _ _ hFa
  have hG := S.fg _ _ hFa
  have hmem : ∀ r ∈ rs, F r = none ∧ ∃ vs, Γ.F r = some (.lst vs) := fun r hr => by
    obtain ⟨i, hi, rfl⟩ := List.mem_iff_getElem.mp hr
    obtain ⟨q1, vs, q2, _⟩ := hrow i rs[i] (rows[i]'(by omega)) (List.getElem?_eq_getElem hi) (List.getElem?_eq_getElem (by omega))
    exact ⟨q1, vs, q2⟩
  have kF : ∀ b o, F b = some o → b ≠ a ∧ b ∉ rs ∧ Γ.F b = some o := fun b o e => by
    have hb : b ≠ a := fun z => by rw [z, h0] at e; cases e
    have hb2 : b ∉ rs := fun m => by rw [(hmem b m).1] at e; cases e
    exact ⟨hb, hb2, by rw [hF b hb hb2]; exact e⟩
  have le : Le Γ ⟨Γ.Z, fun b => if b = a then some rs else Γ.G b, Γ.F⟩ := ⟨rfl, Same.refl _, fun b ss h => ⟨[], by
    have : b ≠ a := fun e => by rw [e, hG] at h; cases h
    simp [this, h]⟩⟩
  refine ⟨hO, fun b => if b = a then some rs else Γ.G b, fun b ss h => by
    have : b ≠ a := fun e => by rw [e, hG] at h; cases h
    simp [this, h], ⟨S.z, fun b oo e => ?_, fun b ss e => ?_, fun b u e => S.f _ _ (kF b u e).2.2, fun b oo e hne => ?_, fun b o e => ?_, fun b o e => ?_, fun b c rb rc ss tt r e1 e2 g1 g2 m1 m2 => ?_⟩⟩
  · by_cases hb : b = a
    · subst hb
      rw [zn] at e
      cases e
      refine ⟨hz, rs, by simp, S.f _ _ hFa, hl, hn, fun i r ds q1 q2 => ?_⟩
      obtain ⟨_, vs, q3, q4⟩ := hrow i r ds q1 q2
      obtain ⟨y1, y2, _⟩ := S.fd _ _ q3
      refine ⟨y1, ?_, vs, S.f _ _ q3, q4⟩
      rw [zi (fun z => har (by rw [← z]; exact List.mem_of_getElem? q1))]
      exact y2
    · rw [zi hb] at e
      obtain ⟨q1, q2⟩ := S.o _ _ e
      refine ⟨q1, (q2.keep le rfl (by simp [hb]) fun ss r hg ⟨rows', hrw⟩ hm => ⟨rfl, rfl, ?_⟩).setF⟩
      subst hrw
      obtain ⟨_, q, _⟩ := S.rowIn e hg hm
      exact zi (fun z => (S.fd _ _ hFa).2.2 b rows' ss e hg (by rw [← z]; exact hm))
  · by_cases hb : b = a
    · rw [hb]; exact ⟨_, S.f _ _ hFa⟩
    · exact S.gd b ss (by simpa [hb] using e)
  · by_cases hb : b = a
    · subst hb; rw [zn] at e; cases e; exact absurd rfl (hne _)
    · rw [zi hb] at e
      simpa [hb] using S.gn b oo e hne
  · have := (kF b o e).1
    simpa [this] using S.fg b o (kF b o e).2.2
  · obtain ⟨k1, k2, k3⟩ := kF b o e
    obtain ⟨y1, y2, y3⟩ := S.fd _ _ k3
    refine ⟨y1, by rw [zi k1]; exact y2, fun c rows' ss e1 g1 => ?_⟩
    by_cases hc : c = a
    · subst hc; simp at g1; subst g1; exact k2
    · rw [zi hc] at e1
      exact y3 c rows' ss e1 (by simpa [hc] using g1)
  · by_cases hb : b = a
    · by_cases hc : c = a
      · rw [hb, hc]
      · subst hb
        simp at g1
        subst g1
        rw [zi hc] at e2
        obtain ⟨_, vs, q⟩ := hmem r m1
        exact absurd m2 ((S.fd _ _ q).2.2 c rc tt e2 (by simpa [hc] using g2))
    · rw [zi hb] at e1
      by_cases hc : c = a
      · subst hc
        simp at g2
        subst g2
        obtain ⟨_, vs, q⟩ := hmem r m2
        exact absurd m1 ((S.fd _ _ q).2.2 b rb ss e1 (by simpa [hb] using g1))
      · rw [zi hc] at e2
        exact S.u b c rb rc ss tt r e1 e2 (by simpa [hb] using g1) (by simpa [hc] using g2) m1 m2
end
end L2
namespace L2
open PySem PySem.Spec PyProof.Rows
noncomputable abbrev WS := List (Option W)
noncomputable abbrev WK := W → OM → Prop
noncomputable abbrev TEW := WS → OM → WK → Prop
noncomputable abbrev TTW := WS → OM → (Bool → OM → Prop) → Prop
noncomputable abbrev TAW := WS → OM → (List W → OM → Prop) → Prop
structure EndsW where
  nx : WS → OM → Prop
  rt : WK
  bk : WS → OM → Prop := fun _ _ => False
  ct : WS → OM → Prop := fun _ _ => False
noncomputable abbrev TSW := EndsW → WS → OM → Prop
noncomputable abbrev TGW := W → WS → OM → (WS → OM → Prop) → Prop
noncomputable abbrev TGsW := List PyData → WS → OM → (WS → OM → Prop) → Prop
noncomputable abbrev R2W := W → W → OM → WK → Prop
section
variable (K : PySem.W.Frag)
noncomputable def RefE (t : TE) (T : TEW) : Prop := ∀ Γ O H ρ σ, Sim K Γ O H → relR K Γ ρ σ → ∀ (Q : VK) (R : WK), T ρ O R → (∀ Γ' O' H' w v, Le Γ Γ' → Sim K Γ' O' H' → relW K Γ' w v → R w O' → Q v H') → t σ H Q
noncomputable def xZ (t : TT) (T : TTW) : Prop := ∀ Γ O H ρ σ, Sim K Γ O H → relR K Γ ρ σ → ∀ (Q : Bool → Hp → Prop) (R : Bool → OM → Prop), T ρ O R → (∀ Γ' O' H' b, Le Γ Γ' → Sim K Γ' O' H' → R b O' → Q b H') → t σ H Q
noncomputable def xN (t : TA) (T : TAW) : Prop := ∀ Γ O H ρ σ, Sim K Γ O H → relR K Γ ρ σ → ∀ (Q : List V → Hp → Prop) (R : List W → OM → Prop), T ρ O R → (∀ Γ' O' H' ws vs, Le Γ Γ' → Sim K Γ' O' H' → relWs K Γ' ws vs → R ws O' → Q vs H') → t σ H Q
structure EndsR (Γ : Gh) (D : Ends) (DW : EndsW) : Prop where
  nx : ∀ Γ' O' H' ρ' σ', Le Γ Γ' → Sim K Γ' O' H' → relR K Γ' ρ' σ' → DW.nx ρ' O' → D.nx σ' H'
  rt : ∀ Γ' O' H' w v, Le Γ Γ' → Sim K Γ' O' H' → relW K Γ' w v → DW.rt w O' → D.rt v H'
  bk : ∀ Γ' O' H' ρ' σ', Le Γ Γ' → Sim K Γ' O' H' → relR K Γ' ρ' σ' → DW.bk ρ' O' → D.bk σ' H'
  ct : ∀ Γ' O' H' ρ' σ', Le Γ Γ' → Sim K Γ' O' H' → relR K Γ' ρ' σ' → DW.ct ρ' O' → D.ct σ' H'
noncomputable def RefS (t : TS) (T : TSW) : Prop := ∀ Γ O H ρ σ D DW, Sim K Γ O H → relR K Γ ρ σ → T DW ρ O → EndsR K Γ D DW → t D σ H
noncomputable def RefG (t : TG) (T : TGW) : Prop := ∀ Γ O H ρ σ w v, Sim K Γ O H → relR K Γ ρ σ → relW K Γ w v → ∀ (Q : St → Hp → Prop) (R : WS → OM → Prop), T w ρ O R → (∀ Γ' O' H' ρ' σ', Le Γ Γ' → Sim K Γ' O' H' → relR K Γ' ρ' σ' → R ρ' O' → Q σ' H') → t v σ H Q
noncomputable def RefGs (t : TGs) (T : TGsW) : Prop := ∀ Γ O H ρ σ ds vs, Sim K Γ O H → relR K Γ ρ σ → Reps K Γ.Z ds vs → ∀ (Q : St → Hp → Prop) (R : WS → OM → Prop), T ds ρ O R → (∀ Γ' O' H' ρ' σ', Le Γ Γ' → Sim K Γ' O' H' → relR K Γ' ρ' σ' → R ρ' O' → Q σ' H') → t vs σ H Q
noncomputable def RefR (r : R2) (rw : R2W) : Prop := ∀ Γ O H x y v u, Sim K Γ O H → relW K Γ x v → relW K Γ y u → ∀ (Q : VK) (R : WK), rw x y O R → (∀ Γ' O' H' w v, Le Γ Γ' → Sim K Γ' O' H' → relW K Γ' w v → R w O' → Q v H') → r v u H Q
noncomputable def RefU (r : V → Hp → VK → Prop) (rw : W → OM → WK → Prop) : Prop := ∀ Γ O H x v, Sim K Γ O H → relW K Γ x v → ∀ (Q : VK) (R : WK), rw x O R → (∀ Γ' O' H' w v, Le Γ Γ' → Sim K Γ' O' H' → relW K Γ' w v → R w O' → Q v H') → r v H Q
noncomputable def RefC (r : List V → Hp → VK → Prop) (rw : List W → OM → WK → Prop) : Prop := ∀ Γ O H xs vs, Sim K Γ O H → relWs K Γ xs vs → ∀ (Q : VK) (R : WK), rw xs O R → (∀ Γ' O' H' w v, Le Γ Γ' → Sim K Γ' O' H' → relW K Γ' w v → R w O' → Q v H') → r vs H Q
noncomputable def RefM (ty : String) (r : V → List V → Hp → VK → Prop) (rw : W → List W → OM → WK → Prop) : Prop := ∀ Γ O H x v xs vs, Sim K Γ O H → relW K Γ x v → relWs K Γ xs vs → ∀ (Q : VK) (R : WK), rw x xs O R → (∀ Γ' O' H' w v, Le Γ Γ' → Sim K Γ' O' H' → relW K Γ' w v → R w O' → Q v H') → r v vs H Q
end
section
variable {K : PySem.W.Frag}
theorem EndsR.mono {Γ Γ' : Gh} {D : Ends} {DW : EndsW} (h : EndsR K Γ D DW) (l : Le Γ Γ') : EndsR K Γ' D DW :=
  ⟨fun _ _ _ _ _ l2 => h.nx _ _ _ _ _ (l.trans l2), fun _ _ _ _ _ l2 => h.rt _ _ _ _ _ (l.trans l2), fun _ _ _ _ _ l2 => h.bk _ _ _ _ _ (l.trans l2), fun _ _ _ _ _ l2 => h.ct _ _ _ _ _ (l.trans l2)⟩
noncomputable def ofV : V → W
  | .int i => .d (.int i)
  | .bl b => .d (.bool b)
  | .str x => .d (.str x)
  | _ => .d .none
noncomputable def scV : V → Bool
  | .int _ => true
  | .bl _ => true
  | .str _ => true
  | .non => true
  | _ => false
theorem kh {Γ : Gh} {v : V} (h : scV v = true) : relW K Γ (ofV v) v := by
  cases v <;> first | rfl | simp [scV] at h
noncomputable def vOf : PyData → V
  | .int i => .int i
  | .bool b => .bl b
  | .str x => .str x
  | .none => .non
  | _ => .ty ""
noncomputable def scD : PyData → Bool
  | .int _ => true
  | .bool _ => true
  | .str _ => true
  | .none => true
  | _ => false
theorem qG {Z : Hp} {x : PyData} {v : V} (h : Rep K Z x v) (s : scD x = true) : v = vOf x := by
  cases x <;> first | exact h | simp [scD] at s
theorem vn {Γ : Gh} {b : Bool} : relW K Γ (.d (.bool b)) (.bl b) := rfl
theorem V3 {Γ : Gh} {b : Str} : relW K Γ (.d (.str b)) (.str b) := rfl
theorem ki {Γ : Gh} {b : Int} : relW K Γ (.d (.int b)) (.int b) := rfl
theorem xW {Γ : Gh} {a : Addr} : relW K Γ (.own a) (.ref a) := rfl
theorem zdy {Γ : Gh} {x : PyData} {v : V} (h : Rep K Γ.Z x v) : relW K Γ (.d x) v := h
theorem qH {Γ : Gh} : relW K Γ (.d .none) .non := rfl
noncomputable def zeb (i : Nat) : TEW := fun ρ O R => ∃ w, ρ[i]? = some (some w) ∧ R w O
noncomputable def wC (x : PyData) : TEW := fun _ O R => R (.d x) O
theorem za8 {i : Nat} : RefE K (Ug i) (zeb i) := by
  rintro Γ O H ρ σ S r Q R ⟨w, e, h⟩ k
  obtain ⟨v, e', hv⟩ := r.get e
  exact ⟨v, e', k _ _ _ _ _ (Le.refl _) S hv h⟩
theorem YQ {v : V} {x : PyData} (h : vOf x = v := by rfl) (hs : scD x = true := by rfl) : RefE K (tC v) (wC x) := by
  rintro Γ O H ρ σ S r Q R hR k
  subst h
  refine k _ _ _ _ _ (Le.refl _) S ?_ hR
  cases x <;> first | rfl | simp [scD] at hs
theorem za9 {i : Int} : RefE K (tC (.int i)) (wC (.int i)) := YQ
theorem zba {i : Str} : RefE K (tC (.str i)) (wC (.str i)) := YQ
theorem zct {i : Bool} : RefE K (tC (.bl i)) (wC (.bool i)) := YQ
theorem zbb : RefE K (tC .non) (wC .none) := YQ
noncomputable def wOp (r : R2W) (Ta Tb : TEW) : TEW := fun ρ O R => Ta ρ O fun x O1 => Tb ρ O1 fun y O2 => r x y O2 R
theorem zcu {r : R2} {rw : R2W} {ta tb : TE} {Ta Tb : TEW} (hr : RefR K r rw) (ha : RefE K ta Ta) (hb : RefE K tb Tb) : RefE K (tOp r ta tb) (wOp rw Ta Tb) := by
  intro Γ O H ρ σ S r0 Q R h k
  refine ha Γ O H ρ σ S r0 _ _ h fun Γ1 O1 H1 x v l1 S1 rx h1 => ?_
  refine hb Γ1 O1 H1 ρ σ S1 (r0.mono l1) _ _ h1 fun Γ2 O2 H2 y u l2 S2 ry h2 => ?_
  exact hr Γ2 O2 H2 x y v u S2 (rx.mono l2) ry _ _ h2 fun Γ3 O3 H3 w z l3 S3 rz h3 => k Γ3 O3 H3 w z ((l1.trans l2).trans l3) S3 rz h3
noncomputable def wUn (r : W → OM → WK → Prop) (Ta : TEW) : TEW := fun ρ O R => Ta ρ O fun x O1 => r x O1 R
theorem zcv {r : V → Hp → VK → Prop} {rw : W → OM → WK → Prop} {ta : TE} {Ta : TEW} (hr : RefU K r rw) (ha : RefE K ta Ta) : RefE K (tUn r ta) (wUn rw Ta) := by
  intro Γ O H ρ σ S r0 Q R h k
  refine ha Γ O H ρ σ S r0 _ _ h fun Γ1 O1 H1 x v l1 S1 rx h1 => ?_
  exact hr Γ1 O1 H1 x v S1 rx _ _ h1 fun Γ3 O3 H3 w z l3 S3 rz h3 => k Γ3 O3 H3 w z (l1.trans l3) S3 rz h3
noncomputable def wI0 (g : Int → Int → V) : R2W := fun x y O R => ∃ i j, x = .d (.int i) ∧ y = .d (.int j) ∧ R (ofV (g i j)) O
noncomputable def wI (C : Int → Int → Prop) (g : Int → Int → V) : R2W := fun x y O R => ∃ i j, x = .d (.int i) ∧ y = .d (.int j) ∧ C i j ∧ R (ofV (g i j)) O
theorem zec {g : Int → Int → V} (hg : ∀ i j, scV (g i j) = true := by intro _ _; rfl) : RefR K (rI0 g) (wI0 g) := by
  rintro Γ O H x y v u S rx ry Q R ⟨i, j, rfl, rfl, h⟩ k
  exact ⟨i, j, rx, ry, k _ _ _ _ _ (Le.refl _) S (kh (hg i j)) h⟩
theorem r_I {C : Int → Int → Prop} {g : Int → Int → V} (hg : ∀ i j, scV (g i j) = true := by intro _ _; rfl) : RefR K (rI C g) (wI C g) := by
  rintro Γ O H x y v u S rx ry Q R ⟨i, j, rfl, rfl, c, h⟩ k
  exact ⟨i, j, rx, ry, c, k _ _ _ _ _ (Le.refl _) S (kh (hg i j)) h⟩
noncomputable def wU (g : Int → V) : W → OM → WK → Prop := fun x O R => ∃ i, x = .d (.int i) ∧ R (ofV (g i)) O
theorem r_U {g : Int → V} (hg : ∀ i, scV (g i) = true := by intro _; rfl) : RefU K (rU g) (wU g) := by
  rintro Γ O H x v S rx Q R ⟨i, rfl, h⟩ k
  exact ⟨i, rx, k _ _ _ _ _ (Le.refl _) S (kh (hg i)) h⟩
noncomputable def wEq : R2W := fun x y O R => ∃ a b, x = .d a ∧ y = .d b ∧ scD a = true ∧ scD b = true ∧ kI (vOf a) (vOf b) = true ∧ R (.d (.bool (decide (vOf a = vOf b)))) O
noncomputable def wNe : R2W := fun x y O R => ∃ a b, x = .d a ∧ y = .d b ∧ scD a = true ∧ scD b = true ∧ kI (vOf a) (vOf b) = true ∧ R (.d (.bool (!decide (vOf a = vOf b)))) O
theorem zed : RefR K rEq wEq := by
  rintro Γ O H x y v u S rx ry Q R ⟨a, b, rfl, rfl, sa, sb, sc, h⟩ k
  rw [qG rx sa, qG ry sb]
  exact ⟨sc, k _ _ _ _ _ (Le.refl _) S vn h⟩
theorem zee : RefR K rNe wNe := by
  rintro Γ O H x y v u S rx ry Q R ⟨a, b, rfl, rfl, sa, sb, sc, h⟩ k
  rw [qG rx sa, qG ry sb]
  exact ⟨sc, k _ _ _ _ _ (Le.refl _) S vn h⟩
noncomputable def zcw : R2W := fun x y O R => ∃ a b, vv O x = some a ∧ vv O y = some b ∧ SeqAt.shaped a = true ∧ SeqAt.shaped b = true ∧ R (.d (.bool (PyData.eqv a b))) O
noncomputable def zcx : R2W := fun x y O R => ∃ a b, vv O x = some a ∧ vv O y = some b ∧ SeqAt.shaped a = true ∧ SeqAt.shaped b = true ∧ R (.d (.bool (!PyData.eqv a b))) O
theorem zdz : RefR K (JR K) zcw := by
  rintro Γ O H x y v u S rx ry Q R ⟨a, b, e1, e2, s1, s2, h⟩ k
  exact ⟨a, b, qX S rx e1, qX S ry e2, s1, s2, k _ _ _ _ _ (Le.refl _) S vn h⟩
theorem zdA : RefR K (JS K) zcx := by
  rintro Γ O H x y v u S rx ry Q R ⟨a, b, e1, e2, s1, s2, h⟩ k
  exact ⟨a, b, qX S rx e1, qX S ry e2, s1, s2, k _ _ _ _ _ (Le.refl _) S vn h⟩
noncomputable def xS : W → Bool
  | .d .none => true
  | _ => false
theorem Xn {Γ : Gh} {w : W} {v : V} (r : relW K Γ w v) : decide (v = .non) = xS w := by
  cases w with
  | d x =>
    cases x with
    | none => rw [show v = .non from r]; rfl
    | list ds => obtain ⟨a, _, rfl, _⟩ := r; rfl
    | tuple ds => obtain ⟨a, _, rfl, _⟩ := r; rfl
    | dict _ => exact r.elim
    | int i => rw [show v = .int i from r]; rfl
    | bool i => rw [show v = .bl i from r]; rfl
    | str i => rw [show v = .str i from r]; rfl
  | own a => rw [show v = .ref a from r]; rfl
  | row a i => obtain ⟨rs, r0, _, _, rfl⟩ := r; rfl
noncomputable def zef : R2W := fun x y O R => y = .d .none ∧ R (.d (.bool (xS x))) O
noncomputable def zdB : R2W := fun x y O R => y = .d .none ∧ R (.d (.bool (!xS x))) O
theorem zdC : RefR K (fun x y H Q => y = .non ∧ Q (.bl (decide (x = .non))) H) zef := by
  rintro Γ O H x y v u S rx ry Q R ⟨rfl, h⟩ k
  refine ⟨ry, k _ _ _ _ _ (Le.refl _) S ?_ h⟩
  rw [Xn rx]; rfl
theorem zcy : RefR K (fun x y H Q => y = .non ∧ Q (.bl (!decide (x = .non))) H) zdB := by
  rintro Γ O H x y v u S rx ry Q R ⟨rfl, h⟩ k
  refine ⟨ry, k _ _ _ _ _ (Le.refl _) S ?_ h⟩
  rw [Xn rx]; rfl
noncomputable def Xo (b : Bool) : W → Bool
  | .d (.bool c) => decide (c = b)
  | _ => false
theorem V4 {Γ : Gh} {w : W} {v : V} {b : Bool} (r : relW K Γ w v) : decide (v = .bl b) = Xo b w := by
  cases w with
  | d x =>
    cases x with
    | none => rw [show v = .non from r]; rfl
    | list ds => obtain ⟨a, _, rfl, _⟩ := r; rfl
    | tuple ds => obtain ⟨a, _, rfl, _⟩ := r; rfl
    | dict _ => exact r.elim
    | int i => rw [show v = .int i from r]; rfl
    | bool i => rw [show v = .bl i from r]; simp [Xo]
    | str i => rw [show v = .str i from r]; rfl
  | own a => rw [show v = .ref a from r]; rfl
  | row a i => obtain ⟨rs, r0, _, _, rfl⟩ := r; rfl
noncomputable def zcz : R2W := fun x y O R => ∃ b, y = .d (.bool b) ∧ R (.d (.bool (Xo b x))) O
noncomputable def zag : R2W := fun x y O R => ∃ b, y = .d (.bool b) ∧ R (.d (.bool (!Xo b x))) O
theorem zdD : RefR K (fun x y H Q => ∃ b, y = .bl b ∧ Q (.bl (decide (x = .bl b))) H) zcz := by
  rintro Γ O H x y v u S rx ry Q R ⟨b, rfl, h⟩ k
  refine ⟨b, ry, k _ _ _ _ _ (Le.refl _) S ?_ h⟩
  rw [V4 rx]; rfl
theorem zcA : RefR K (fun x y H Q => ∃ b, y = .bl b ∧ Q (.bl (!decide (x = .bl b))) H) zag := by
  rintro Γ O H x y v u S rx ry Q R ⟨b, rfl, h⟩ k
  refine ⟨b, ry, k _ _ _ _ _ (Le.refl _) S ?_ h⟩
  rw [V4 rx]; rfl
noncomputable def zeg : R2W := fun x y O R => ∃ ws i w, y = .d (.int i) ∧ yS O x = some ws ∧ atI ws i = some w ∧ R w O
noncomputable def zcB : R2W := fun x y O R => ∃ ds i e, y = .d (.int i) ∧ xz x = some ds ∧ atI ds i = some e ∧ R (.d e) O
noncomputable def zcC : R2W := fun x y O R => ∃ z i c, x = .d (.str z) ∧ y = .d (.int i) ∧ z.length ≤ sizeLine ∧ atI z.cps.toList i = some c ∧ R (.d (.str ⟨#[c]⟩)) O
theorem Zq {α β : Type} {F : α → β → Prop} {xs : List α} {ys : List β} {i : Int} {x : α} (r : Paired F xs ys) (e : atI xs i = some x) : ∃ y, atI ys i = some y ∧ F x y := by
  unfold atI at e ⊢
  rw [← Paired.length r]
  cases h : ixN xs.length i with
  | none => rw [h] at e; cases e
  | some j =>
    rw [h] at e
    exact Paired.getP r e
theorem zdE : RefR K (UB K) zeg := by
  rintro Γ O H x y v u S rx ry Q R ⟨ws, i, w, rfl, e, h1, h⟩ k
  obtain ⟨a, vs, rfl, q1, q2⟩ := xM S rx e
  obtain ⟨z, h2, h3⟩ := Zq q2 h1
  exact ⟨a, vs, i, z, rfl, ry, q1, h2, k _ _ _ _ _ (Le.refl _) S h3 h⟩
theorem zdF : RefR K (JN K) zcB := by
  rintro Γ O H x y v u S rx ry Q R ⟨ds, i, w, rfl, e, h1, h⟩ k
  obtain ⟨a, vs, rfl, q1, q2⟩ := ve S rx e
  have h1' : atI (ds.map W.d) i = some (.d w) := by
    unfold atI at h1 ⊢
    rw [List.length_map]
    cases hj : ixN ds.length i with
    | none => rw [hj] at h1; cases h1
    | some j =>
      rw [hj] at h1
      replace h1 : ds[j]? = some w := h1
      show (ds.map W.d)[j]? = some (.d w)
      rw [List.getElem?_map, h1]; rfl
  obtain ⟨z, h2, h3⟩ := Zq q2 h1'
  exact ⟨a, vs, i, z, rfl, ry, q1, h2, k _ _ _ _ _ (Le.refl _) S h3 h⟩
theorem zdG : RefR K zce zcC := by
  rintro Γ O H x y v u S rx ry Q R ⟨z, i, c, rfl, rfl, hl, h1, h⟩ k
  exact ⟨z, i, c, rx, ry, hl, h1, k _ _ _ _ _ (Le.refl _) S V3 h⟩
noncomputable def J0 (T U : TTW) : TTW := fun ρ O R => T ρ O fun c O1 => if c = true then U ρ O1 R else R false O1
noncomputable def wOr (T U : TTW) : TTW := fun ρ O R => T ρ O fun c O1 => if c = true then R true O1 else U ρ O1 R
noncomputable def J1 (T : TTW) : TTW := fun ρ O R => T ρ O fun c O1 => R (!c) O1
theorem zbc {t u : TT} {T U : TTW} (h : xZ K t T) (g : xZ K u U) : xZ K (zbU t u) (J0 T U) := by
  intro Γ O H ρ σ S r0 Q R hT k
  refine h Γ O H ρ σ S r0 _ _ hT fun Γ1 O1 H1 b l1 S1 h1 => ?_
  cases b with
  | true => rw [if_pos rfl] at h1 ⊢; exact g _ _ _ _ _ S1 (r0.mono l1) _ _ h1 fun Γ2 O2 H2 c l2 S2 h2 => k _ _ _ _ (l1.trans l2) S2 h2
  | false => rw [if_neg (by decide)] at h1 ⊢; exact k _ _ _ _ l1 S1 h1
theorem zcD {t u : TT} {T U : TTW} (h : xZ K t T) (g : xZ K u U) : xZ K (tOr t u) (wOr T U) := by
  intro Γ O H ρ σ S r0 Q R hT k
  refine h Γ O H ρ σ S r0 _ _ hT fun Γ1 O1 H1 b l1 S1 h1 => ?_
  cases b with
  | false => rw [if_neg (by decide)] at h1 ⊢; exact g _ _ _ _ _ S1 (r0.mono l1) _ _ h1 fun Γ2 O2 H2 c l2 S2 h2 => k _ _ _ _ (l1.trans l2) S2 h2
  | true => rw [if_pos rfl] at h1 ⊢; exact k _ _ _ _ l1 S1 h1
theorem zbd {t : TT} {T : TTW} (h : xZ K t T) : xZ K (zbV t) (J1 T) := by
  intro Γ O H ρ σ S r0 Q R hT k
  exact h Γ O H ρ σ S r0 _ _ hT fun Γ1 O1 H1 b l1 S1 h1 => k _ _ _ _ l1 S1 h1
noncomputable def zah (Ta Tb : TEW) : TEW := fun ρ O R => Ta ρ O fun x O1 => ∃ c, x = .d (.bool c) ∧ if c = true then Tb ρ O1 R else R (.d (.bool false)) O1
noncomputable def zai (Ta : TEW) : TEW := fun ρ O R => Ta ρ O fun x O1 => ∃ c, x = .d (.bool c) ∧ R (.d (.bool (!c))) O1
theorem J2 {ta tb : TE} {Ta Tb : TEW} (ha : RefE K ta Ta) (hb : RefE K tb Tb) : RefE K (KS ta tb) (zah Ta Tb) := by
  intro Γ O H ρ σ S r0 Q R hT k
  refine ha Γ O H ρ σ S r0 _ _ hT fun Γ1 O1 H1 x v l1 S1 rx h1 => ?_
  obtain ⟨c, rfl, h1⟩ := h1
  refine ⟨c, rx, ?_⟩
  cases c with
  | true => rw [if_pos rfl] at h1 ⊢; exact hb _ _ _ _ _ S1 (r0.mono l1) _ _ h1 fun Γ2 O2 H2 y u l2 S2 ry h2 => k _ _ _ _ _ (l1.trans l2) S2 ry h2
  | false => rw [if_neg (by decide)] at h1 ⊢; exact k _ _ _ _ _ l1 S1 vn h1
theorem J3 {ta : TE} {Ta : TEW} (ha : RefE K ta Ta) : RefE K (KU ta) (zai Ta) := by
  intro Γ O H ρ σ S r0 Q R hT k
  refine ha Γ O H ρ σ S r0 _ _ hT fun Γ1 O1 H1 x v l1 S1 rx h1 => ?_
  obtain ⟨c, rfl, h1⟩ := h1
  exact ⟨c, rx, k _ _ _ _ _ l1 S1 vn h1⟩
noncomputable def wIf (T : TTW) (Ta Tb : TEW) : TEW := fun ρ O R => T ρ O fun c O1 => if c = true then Ta ρ O1 R else Tb ρ O1 R
theorem zcE {t : TT} {T : TTW} {ta tb : TE} {Ta Tb : TEW} (h : xZ K t T) (ha : RefE K ta Ta) (hb : RefE K tb Tb) : RefE K (tIf t ta tb) (wIf T Ta Tb) := by
  intro Γ O H ρ σ S r0 Q R hT k
  refine h Γ O H ρ σ S r0 _ _ hT fun Γ1 O1 H1 b l1 S1 h1 => ?_
  cases b with
  | true => rw [if_pos rfl] at h1 ⊢; exact ha _ _ _ _ _ S1 (r0.mono l1) _ _ h1 fun Γ2 O2 H2 y u l2 S2 ry h2 => k _ _ _ _ _ (l1.trans l2) S2 ry h2
  | false => rw [if_neg (by decide)] at h1 ⊢; exact hb _ _ _ _ _ S1 (r0.mono l1) _ _ h1 fun Γ2 O2 H2 y u l2 S2 ry h2 => k _ _ _ _ _ (l1.trans l2) S2 ry h2
noncomputable def UH (O : OM) : W → Option Bool
  | .d .none => some false
  | .d (.bool b) => some b
  | .d (.int i) => some (i != 0)
  | .d (.str z) => some (z.length != 0)
  | .d (.list ds) => some (!ds.isEmpty)
  | .d (.tuple ds) => some (!ds.isEmpty)
  | .own a => match O a with
    | some (.lst ws) => some (!ws.isEmpty)
    | some (.dK kvs) => some (!kvs.isEmpty)
    | _ => none
  | _ => none
noncomputable def Xp : W → Prop
  | .d (.str z) => z.length ≤ sizeLine
  | _ => True
theorem vg {α β : Type} {F : α → β → Prop} {xs : List α} {ys : List β} (r : Paired F xs ys) : xs.isEmpty = ys.isEmpty := by cases r <;> rfl
theorem J4 {Γ : Gh} {O : OM} {H : Hp} {w : W} {v : V} {b : Bool} (S : Sim K Γ O H) (r : relW K Γ w v) (e : UH O w = some b) (hs : Xp w) : Xa K v H b := by
  cases w with
  | d x =>
    cases x with
    | none => rw [show v = .non from r]; cases e; rfl
    | bool i => rw [show v = .bl i from r]; cases e; rfl
    | int i => rw [show v = .int i from r]; cases e; rfl
    | str z =>
      rw [show v = .str z from r]; cases e
      refine ⟨hs, ?_⟩
      show (z.length != 0) = ((z.length : Int) != 0)
      cases hz : z.length with
      | zero => rfl
      | succ n => simp only [bne, Nat.beq_eq_true_eq]; simp; omega
    | list ds =>
      cases e
      obtain ⟨a, xs, rfl, h1, h2⟩ := r
      refine .inl ⟨xs, h1.same S.z, ?_⟩
      rw [← vg (xt h2 : relWs K Γ _ _)]
      simp
    | tuple ds =>
      cases e
      obtain ⟨a, xs, rfl, h1, h2⟩ := r
      refine .inr (.inl ⟨xs, h1.same S.z, ?_⟩)
      rw [← vg (xt h2 : relWs K Γ _ _)]
      simp
    | dict _ => exact r.elim
  | own a =>
    cases (show v = .ref a from r)
    simp only [UH] at e
    split at e
    · rename_i ws h
      cases e
      obtain ⟨_, vs, h1, h2⟩ := S.o _ _ h
      exact .inl ⟨vs, SqL.of h1, by rw [vg h2]⟩
    · rename_i kvs h
      cases e
      obtain ⟨_, vs, h1, h2⟩ := S.o _ _ h
      exact .inr (.inr ⟨vs, h1, by rw [vg h2]⟩)
    · cases e
  | row a i => cases e
noncomputable def J5 (T : TEW) : TTW := fun ρ O R => T ρ O fun x O1 => ∃ b, UH O1 x = some b ∧ Xp x ∧ R b O1
theorem zbe {t : TE} {T : TEW} (h : RefE K t T) : xZ K (fun σ H Q => t σ H fun x H' => ∃ k, Xa K x H' k ∧ Q k H') (J5 T) := by
  intro Γ O H ρ σ S r0 Q R hT k
  refine h Γ O H ρ σ S r0 _ _ hT fun Γ1 O1 H1 x v l1 S1 rx h1 => ?_
  obtain ⟨c, e, hs, h1⟩ := h1
  exact ⟨c, J4 S1 rx e hs, k _ _ _ _ l1 S1 h1⟩
noncomputable def J6 : TAW := fun _ O R => R [] O
noncomputable def UI (Ta : TEW) (Tr : TAW) : TAW := fun ρ O R => Ta ρ O fun x O1 => Tr ρ O1 fun xs O2 => R (x :: xs) O2
theorem zbf : xN K jz J6 := fun Γ O H ρ σ S r0 Q R h k => k _ _ _ _ _ (Le.refl _) S .nil h
theorem J7 {ta : TE} {t : TA} {Ta : TEW} {T : TAW} (ha : RefE K ta Ta) (hr : xN K t T) : xN K (kd ta t) (UI Ta T) := by
  intro Γ O H ρ σ S r0 Q R h k
  refine ha Γ O H ρ σ S r0 _ _ h fun Γ1 O1 H1 x v l1 S1 rx h1 => ?_
  exact hr Γ1 O1 H1 ρ σ S1 (r0.mono l1) _ _ h1 fun Γ2 O2 H2 ws vs l2 S2 rs h2 => k _ _ _ _ _ (l1.trans l2) S2 (.cons (rx.mono l2) rs) h2
noncomputable def zcF (T : TAW) : TEW := fun ρ O R => T ρ O fun ws O1 => ∃ ds, yP ws = some ds ∧ ds.length ≤ 1000 ∧ R (.d (.tuple ds)) O1
noncomputable def zcG (T : TAW) : TEW := fun ρ O R => T ρ O fun ws O1 => ∃ ds, yP ws = some ds ∧ ds.length ≤ 1000 ∧ R (.d (.list ds)) O1
theorem uy {n : Nat} (h : n ≤ 1000) : n ≤ sizeLine := Nat.le_of_lt (x5 h)
theorem jE {Γ : Gh} {O : OM} {H : Hp} {ds : List PyData} {vs : List V} {p : Addr} (S : Sim K Γ O H) (hr : Reps K Γ.Z ds vs) (hp : H p = none) : ∃ Γ', Le Γ Γ' ∧ Sim K Γ' O (upd H p (.tup vs)) ∧ relW K Γ' (.d (.tuple ds)) (.ref p) := by
  obtain ⟨l, S'⟩ := S.newD hp (.tup vs)
  exact ⟨_, l, S', p, vs, rfl, SqT.of zX, Reps.same l.z _ _ hr⟩
theorem qI {Γ : Gh} {O : OM} {H : Hp} {ds : List PyData} {vs : List V} {p : Addr} (S : Sim K Γ O H) (hr : Reps K Γ.Z ds vs) (hp : H p = none) : ∃ Γ', Le Γ Γ' ∧ Sim K Γ' O (upd H p (.lst vs)) ∧ relW K Γ' (.d (.list ds)) (.ref p) := by
  obtain ⟨l, S'⟩ := S.newD hp (.lst vs)
  exact ⟨_, l, S', p, vs, rfl, SqL.of zX, Reps.same l.z _ _ hr⟩
theorem zbg {Γ : Gh} {O : OM} {H : Hp} {ws : List W} {vs : List V} {p : Addr} (S : Sim K Γ O H) (hr : relWs K Γ ws vs) (hp : H p = none) : O p = none ∧ Sim K Γ (updO O p (.lst ws)) (upd H p (.lst vs)) :=
  ⟨(S.free hp).2.1, S.newO hp (by intro _ h; cases h) ⟨vs, zX, hr⟩⟩
theorem zbh {t : TA} {T : TAW} (h : xN K t T) : RefE K (JK t) (zcF T) := by
  intro Γ O H ρ σ S r0 Q R hT k
  refine h Γ O H ρ σ S r0 _ _ hT fun Γ1 O1 H1 ws vs l1 S1 rs h1 => ?_
  obtain ⟨ds, e, hl, h1⟩ := h1
  rw [vf e] at rs
  refine ⟨by rw [← Paired.length rs, List.length_map]; exact uy hl, fun p hp => ?_⟩
  obtain ⟨Γ', l, S', r'⟩ := jE S1 (yG rs) hp
  exact k _ _ _ _ _ (l1.trans l) S' r' h1
theorem zbi {t : TA} {T : TAW} (h : xN K t T) : RefE K (Z1 t) (zcG T) := by
  intro Γ O H ρ σ S r0 Q R hT k
  refine h Γ O H ρ σ S r0 _ _ hT fun Γ1 O1 H1 ws vs l1 S1 rs h1 => ?_
  obtain ⟨ds, e, hl, h1⟩ := h1
  rw [vf e] at rs
  refine ⟨by rw [← Paired.length rs, List.length_map]; exact uy hl, fun p hp => ?_⟩
  obtain ⟨Γ', l, S', r'⟩ := qI S1 (yG rs) hp
  exact k _ _ _ _ _ (l1.trans l) S' r' h1
end
end L2
namespace L2
open PySem PySem.Spec PyProof.Rows
noncomputable abbrev SpW := List W → OM → WK → Prop
noncomputable def zb (K : PySem.W.Frag) (s : SpW) : Sp := fun vs H Q _ => ∃ Γ O ws R, Sim K Γ O H ∧ relWs K Γ ws vs ∧ s ws O R ∧ ∀ Γ' O' H' w v, Le Γ Γ' → Sim K Γ' O' H' → relW K Γ' w v → R w O' → Q v H'
noncomputable def Clo (R : WK) : WK := fun w O => R w O ∨ ∃ a ds, w = .own a ∧ O a = some (.lst (ds.map .d)) ∧ R (.d (.list ds)) (del O a)
noncomputable def ua (N : List Str) (ws : List W) : WS := ws.map some ++ List.replicate (N.length - ws.length) none
section
variable {K : PySem.W.Frag}
theorem Zr {Γ : Gh} {N : List Str} {ws : List W} {vs : List V} (h : relWs K Γ ws vs) : relR K Γ (ua N ws) (L2.start N vs) := by
  unfold ua L2.start
  rw [Paired.length h]
  refine Paired.appP ?_ ?_
  · induction h with
    | nil => exact .nil
    | cons a b ih => exact .cons a ih
  · generalize N.length - vs.length = n
    induction n with
    | zero => exact .nil
    | succ n ih => exact .cons trivial ih
theorem kj {Γ : Gh} {O : OM} {H : Hp} {w : W} {v : V} {R : WK} {Q : VK} (S : Sim K Γ O H) (r : relW K Γ w v) (h : Clo R w O) (k : ∀ Γ' O' H' w v, Le Γ Γ' → Sim K Γ' O' H' → relW K Γ' w v → R w O' → Q v H') : Q v H := by
  rcases h with h | ⟨a, ds, rfl, e, h⟩
  · exact k _ _ _ _ _ (Le.refl _) S r h
  · obtain ⟨Γ', l, S', r'⟩ := S.freeze e
    cases (show v = .ref a from r)
    exact k _ _ _ _ _ l S' r' h
variable {P : Program} {w : World} {mg : Str → Option Value} {base : Heap}
theorem Fun.okW {x qual : Str} {st : Stmt} {f : Addr} {fd : FuncData} {N ps : List Str} {k : Nat} {s : SpW} (F : Fun K x qual st f fd) (S : FnScope N ps (defScope st)) (len : ∀ ws O R, s ws O R → ws.length = ps.length)
    (hbody : ∀ (cdv : Value) (A : Around) (outer : List Env) (sh : Shared) (H : Hp) (E : XK), Room k (A.deeper (envOfC qual (defScope st) sh.heap.objs.size f cdv)) →
      ∃ t T, PSs (uF CX0 P w K mg base N qual (defScope st) f cdv A outer sh H E).nox (defBody st) t ∧ RefS K t T ∧ ∀ ws O R, s ws O R → T { nx := fun _ O' => Clo R (.d .none) O', rt := Clo R } (ua N ws) O) : FnOk P w K mg base CX0 (k + 1) f fd ps (zb K s) := by
  refine F.ok S (fun vs H Q E h => ?_) (fun cdv A outer sh H vs Q E hr h => ?_)
  · obtain ⟨Γ, O, ws, R, S1, r, hs, _⟩ := h
    rw [← Paired.length r]
    exact len ws O R hs
  · obtain ⟨t, T, h1, h2, h3⟩ := hbody cdv A outer sh H E hr
    obtain ⟨Γ, O, ws, R, S1, r, hs, kk⟩ := h
    refine ⟨t, h1, h2 Γ O H _ _ _ _ S1 (Zr r) (h3 ws O R hs) ⟨fun Γ' O' H' ρ' σ' l S' r' h' => ?_, fun Γ' O' H' w v l S' r' h' => ?_, fun _ _ _ _ _ _ _ _ h => h.elim, fun _ _ _ _ _ _ _ _ h => h.elim⟩⟩
    · exact kj S' qH h' fun Γ2 O2 H2 w v l2 => kk _ _ _ _ _ (l.trans l2)
    · exact kj S' r' h' fun Γ2 O2 H2 w v l2 => kk _ _ _ _ _ (l.trans l2)
theorem Fun.okV {x qual : Str} {st : Stmt} {f : Addr} {fd : FuncData} {N ps : List Str} {k : Nat} {s : SpW} {t : TS} {T : TSW} (F : Fun K x qual st f fd) (S : FnScope N ps (defScope st)) (len : ∀ ws O R, s ws O R → ws.length = ps.length)
    (hP : ∀ (cdv : Value) (A : Around) (outer : List Env) (sh : Shared) (H : Hp) (E : XK), Room k (A.deeper (envOfC qual (defScope st) sh.heap.objs.size f cdv)) → PSs (uF CX0 P w K mg base N qual (defScope st) f cdv A outer sh H E).nox (defBody st) t)
    (hR : RefS K t T) (hb : ∀ ws O R, s ws O R → T { nx := fun _ O' => Clo R (.d .none) O', rt := Clo R } (ua N ws) O) : FnOk P w K mg base CX0 (k + 1) f fd ps (zb K s) :=
  F.okW S len fun cdv A outer sh H E hr => ⟨t, T, hP cdv A outer sh H E hr, hR, hb⟩
theorem FunD.okW {x qual : Str} {st : Stmt} {ds : List Value} {f : Addr} {fd : FuncData} {N ps : List Str} {k : Nat} {s : SpW} (F : FunD K x qual st ds f fd) (S : FnScope N ps (defScope st)) (len : ∀ ws O R, s ws O R → ws.length = ps.length)
    (hbody : ∀ (cdv : Value) (A : Around) (outer : List Env) (sh : Shared) (H : Hp) (E : XK), Room k (A.deeper (envOfC qual (defScope st) sh.heap.objs.size f cdv)) →
      ∃ t T, PSs (uF CX0 P w K mg base N qual (defScope st) f cdv A outer sh H E).nox (defBody st) t ∧ RefS K t T ∧ ∀ ws O R, s ws O R → T { nx := fun _ O' => Clo R (.d .none) O', rt := Clo R } (ua N ws) O) : FnOk P w K mg base CX0 (k + 1) f fd ps (zb K s) := by
  refine F.ok S (fun vs H Q E h => ?_) (fun cdv A outer sh H vs Q E hr h => ?_)
  · obtain ⟨Γ, O, ws, R, S1, r, hs, _⟩ := h
    rw [← Paired.length r]
    exact len ws O R hs
  · obtain ⟨t, T, h1, h2, h3⟩ := hbody cdv A outer sh H E hr
    obtain ⟨Γ, O, ws, R, S1, r, hs, kk⟩ := h
    refine ⟨t, h1, h2 Γ O H _ _ _ _ S1 (Zr r) (h3 ws O R hs) ⟨fun Γ' O' H' ρ' σ' l S' r' h' => ?_, fun Γ' O' H' w v l S' r' h' => ?_, fun _ _ _ _ _ _ _ _ h => h.elim, fun _ _ _ _ _ _ _ _ h => h.elim⟩⟩
    · exact kj S' qH h' fun Γ2 O2 H2 w v l2 => kk _ _ _ _ _ (l.trans l2)
    · exact kj S' r' h' fun Γ2 O2 H2 w v l2 => kk _ _ _ _ _ (l.trans l2)
theorem FunD.okV {x qual : Str} {st : Stmt} {ds : List Value} {f : Addr} {fd : FuncData} {N ps : List Str} {k : Nat} {s : SpW} {t : TS} {T : TSW} (F : FunD K x qual st ds f fd) (S : FnScope N ps (defScope st)) (len : ∀ ws O R, s ws O R → ws.length = ps.length)
    (hP : ∀ (cdv : Value) (A : Around) (outer : List Env) (sh : Shared) (H : Hp) (E : XK), Room k (A.deeper (envOfC qual (defScope st) sh.heap.objs.size f cdv)) → PSs (uF CX0 P w K mg base N qual (defScope st) f cdv A outer sh H E).nox (defBody st) t)
    (hR : RefS K t T) (hb : ∀ ws O R, s ws O R → T { nx := fun _ O' => Clo R (.d .none) O', rt := Clo R } (ua N ws) O) : FnOk P w K mg base CX0 (k + 1) f fd ps (zb K s) :=
  F.okW S len fun cdv A outer sh H E hr => ⟨t, T, hP cdv A outer sh H E hr, hR, hb⟩
end
section
variable {K : PySem.W.Frag}
theorem kP {Γ : Gh} : ∀ {vs : List V}, vs.all scV = true → relWs K Γ (vs.map ofV) vs
  | [], _ => .nil
  | v :: vs, h => by
    simp at h
    exact .cons (kh h.1) (kP (by simpa using h.2))
noncomputable def Zs (s : SpW) (dvs : List V) (T : TAW) : TEW := fun ρ O R => T ρ O fun ws O1 => s (ws ++ dvs.map ofV) O1 R
theorem Xq {s : SpW} {dvs : List V} {t : TA} {T : TAW} (h : xN K t T) (hd : dvs.all scV = true := by rfl) : RefE K (Ze (zb K s) dvs E0 t) (Zs s dvs T) := by
  intro Γ O H ρ σ S r0 Q R hT k
  refine h Γ O H ρ σ S r0 _ _ hT fun Γ1 O1 H1 ws vs l1 S1 rs h1 => ?_
  exact ⟨Γ1, O1, _, R, S1, Paired.appP rs (kP hd), h1, fun Γ2 O2 H2 w v l2 S2 r2 h2 => k _ _ _ _ _ (l1.trans l2) S2 r2 h2⟩
noncomputable def wCB (r : List W → OM → WK → Prop) (T : TAW) : TEW := fun ρ O R => T ρ O fun ws O1 => r ws O1 R
theorem zcH {r : List V → Hp → VK → Prop} {rw : List W → OM → WK → Prop} {t : TA} {T : TAW} (hr : RefC K r rw) (h : xN K t T) : RefE K (tCB r t) (wCB rw T) := by
  intro Γ O H ρ σ S r0 Q R hT k
  refine h Γ O H ρ σ S r0 _ _ hT fun Γ1 O1 H1 ws vs l1 S1 rs h1 => ?_
  exact hr _ _ _ _ _ S1 rs _ _ h1 fun Γ2 O2 H2 w v l2 S2 r2 h2 => k _ _ _ _ _ (l1.trans l2) S2 r2 h2
theorem Zt {Γ : Gh} {f : Str} : ∀ {fs : List (Str × W)} {vs : List (Str × V)}, xf K Γ fs vs → (fs.lookup f = none → vs.lookup f = none) ∧ ∀ w, fs.lookup f = some w → ∃ v, vs.lookup f = some v ∧ relW K Γ w v := by
  intro fs vs h
  unfold xf at h
  induction h with
  | nil => exact ⟨fun _ => rfl, fun w e => by cases e⟩
  | cons a b ih =>
    rename_i p q ps qs
    obtain ⟨k, x⟩ := p
    obtain ⟨k', y⟩ := q
    obtain ⟨e1, e2⟩ := a
    cases (show k = k' from e1)
    simp only [List.lookup_cons]
    cases e : f == k with
    | true => exact ⟨fun z => (by cases z), fun w z => by cases z; exact ⟨_, rfl, e2⟩⟩
    | false => exact ih
noncomputable def zaj (C : Addr) (m : Str) (s : SpW) (Ta : TEW) (T : TAW) : TEW := fun ρ O R => Ta ρ O fun x O1 => ∃ a dx fs, x = .own a ∧ O1 a = some (.ins C dx fs) ∧ fs.lookup m = none ∧ T ρ O1 fun ws O2 => s (x :: ws) O2 R
theorem J8 {C : Addr} {m : Str} {s : SpW} {ta : TE} {t : TA} {Ta : TEW} {T : TAW} (ha : RefE K ta Ta) (h : xN K t T) : RefE K (Uy C m (zb K s) [] E0 ta t) (zaj C m s Ta T) := by
  intro Γ O H ρ σ S r0 Q R hT k
  refine ha Γ O H ρ σ S r0 _ _ hT fun Γ1 O1 H1 x v l1 S1 rx h1 => ?_
  obtain ⟨a, dx, fs, rfl, ho, hm, h1⟩ := h1
  cases (show v = .ref a from rx)
  obtain ⟨_, vs, q1, q2⟩ := S1.o _ _ ho
  refine ⟨a, dx, vs, rfl, q1, (Zt q2).1 hm, ?_⟩
  refine h _ _ _ _ _ S1 (r0.mono l1) _ _ h1 fun Γ2 O2 H2 ws us l2 S2 rs h2 => ?_
  rw [List.append_nil]
  exact ⟨Γ2, O2, _, R, S2, .cons xW rs, h2, fun Γ3 O3 H3 w v l3 S3 r3 h3 => k _ _ _ _ _ ((l1.trans l2).trans l3) S3 r3 h3⟩
theorem Sim.junk {Γ : Gh} {O : OM} {H : Hp} (S : Sim K Γ O H) {p : Addr} (hp : H p = none) (o : HO) : Sim K Γ O (upd H p o) := by
  obtain ⟨hz, hO, hG⟩ := S.free hp
  refine ⟨fun b u e => ?_, fun a oo e => ?_, fun a rs e => ?_, vH S.f (S.f.free hp), S.gn, S.fg, S.fd, S.u⟩
  · rw [zm (fun z => by rw [z, hz] at e; cases e)]; exact S.z _ _ e
  · have hap : a ≠ p := fun z => by rw [z, hO] at e; cases e
    obtain ⟨h1, h2⟩ := S.o _ _ e
    refine ⟨h1, h2.keep (Le.refl _) (zm hap) rfl fun rs r hg ⟨rows, hrw⟩ hr => ?_⟩
    subst hrw
    obtain ⟨_, _, vs, q⟩ := S.rowIn e hg hr
    exact ⟨zm (fun z => by rw [z, hp] at q; cases q), rfl, rfl⟩
  · obtain ⟨o', h⟩ := S.gd _ _ e
    exact ⟨o', by rw [zm (yU h hp)]; exact h⟩
noncomputable def zak (C : Addr) (s : SpW) (T : TAW) : TEW := fun ρ O R => T ρ O fun ws O1 => ∀ x dx, O1 x = none → s (.own x :: ws) (updO O1 x (.ins C dx [])) fun w O2 => w = .d .none ∧ R (.own x) O2
theorem J9 {C : Addr} {s : SpW} {t : TA} {T : TAW} (h : xN K t T) : RefE K (Uz C (zb K s) [] E0 t) (zak C s T) := by
  intro Γ O H ρ σ S r0 Q R hT k
  refine h _ _ _ _ _ S r0 _ _ hT fun Γ1 O1 H1 ws vs l1 S1 rs h1 => ?_
  intro x dx hx hdx hne
  have hx' : upd H1 dx (.own x) x = none := by rw [zm (Ne.symm hne)]; exact hx
  have S2 := S1.junk hdx (.own x)
  have S3 := S2.newO hx' (o := .ins C dx []) (oo := .ins C dx []) (by intro _ h; cases h) ⟨[], zX, .nil⟩
  rw [List.append_nil]
  refine ⟨Γ1, _, _, _, S3, .cons xW rs, h1 x dx (S2.free hx').2.1, fun Γ2 O2 H2 w v l2 S4 r2 h2 => ?_⟩
  obtain ⟨rfl, h2⟩ := h2
  exact ⟨r2, k _ _ _ _ _ (l1.trans l2) S4 xW h2⟩
noncomputable def qi (O : OM) (w : W) : Option (List PyData) := match xz w with
  | some ds => some ds
  | none => (yS O w).bind yP
theorem V5 {Γ : Gh} {O : OM} {H : Hp} {w : W} {v : V} {ds : List PyData} (S : Sim K Γ O H) (r : relW K Γ w v) (e : qi O w = some ds) : ∃ a vs, v = .ref a ∧ (SqL K H a vs ∨ SqT K H a vs) ∧ Reps K Γ.Z ds vs := by
  unfold qi at e
  split at e
  · rename_i es h
    cases e
    obtain ⟨a, vs, e1, h1, h2⟩ := ve S r h
    exact ⟨a, vs, e1, .inr h1, yG h2⟩
  · cases h : yS O w with
    | none => rw [h] at e; cases e
    | some ws =>
      rw [h] at e
      obtain ⟨a, vs, e1, h1, h2⟩ := xM S r h
      rw [vf (show yP ws = some ds from e)] at h2
      exact ⟨a, vs, e1, .inl h1, yG h2⟩
noncomputable def UJ (O : OM) (w : W) : Option Nat := match xz w with
  | some ds => some ds.length
  | none => (yS O w).map (·.length)
noncomputable def Ka : List W → OM → WK → Prop := fun xs O R => ∃ w n, xs = [w] ∧ UJ O w = some n ∧ R (.d (.int n)) O
theorem zdH : RefC K (fun xs H Q => ∃ p ys, xs = [.ref p] ∧ (SqL K H p ys ∨ SqT K H p ys) ∧ Q (.int ys.length) H) Ka := by
  rintro Γ O H xs vs S rs Q R ⟨w, n, rfl, e, h⟩ k
  cases rs with
  | cons rx t =>
    cases t
    unfold UJ at e
    split at e
    · rename_i ds hT
      cases e
      obtain ⟨a, vs, e1, h1, h2⟩ := ve S rx hT
      subst e1
      refine ⟨a, vs, rfl, .inr h1, k _ _ _ _ _ (Le.refl _) S ?_ h⟩
      rw [← Paired.length h2, List.length_map]; rfl
    · cases hL : yS O w with
      | none => rw [hL] at e; cases e
      | some ws =>
        rw [hL] at e
        cases e
        obtain ⟨a, vs, e1, h1, h2⟩ := xM S rx hL
        subst e1
        refine ⟨a, vs, rfl, .inl h1, k _ _ _ _ _ (Le.refl _) S ?_ h⟩
        rw [← Paired.length h2]; rfl
noncomputable def zal : List W → OM → WK → Prop := fun xs O R => ∃ z, xs = [.d (.str z)] ∧ z.length ≤ sizeLine ∧ R (.d (.int z.length)) O
theorem zcI : RefC K (fun xs H Q => ∃ z, xs = [.str z] ∧ z.length ≤ sizeLine ∧ Q (.int z.length) H) zal := by
  rintro Γ O H xs vs S rs Q R ⟨z, rfl, e, h⟩ k
  cases rs with
  | cons rx t =>
    cases t
    exact ⟨z, by rw [show _ = V.str z from rx], e, k _ _ _ _ _ (Le.refl _) S ki h⟩
noncomputable def Xr : List W → OM → WK → Prop := fun xs O R => ∃ w ds, xs = [w] ∧ qi O w = some ds ∧ R (.d (.list ds)) O
theorem zbj : RefC K (fun xs H Q => ∃ p ys, xs = [.ref p] ∧ (SqL K H p ys ∨ SqT K H p ys) ∧ ∀ l, H l = none → Q (.ref l) (upd H l (.lst ys))) Xr := by
  rintro Γ O H xs vs S rs Q R ⟨w, ds, rfl, e, h⟩ k
  cases rs with
  | cons rx t =>
    cases t
    obtain ⟨a, vs, e1, h1, h2⟩ := V5 S rx e
    subst e1
    refine ⟨a, vs, rfl, h1, fun l hl => ?_⟩
    obtain ⟨Γ', le, S', r'⟩ := qI S h2 hl
    exact k _ _ _ _ _ le S' r' h
noncomputable def Xs : List W → OM → WK → Prop := fun xs O R => ∃ w ds, xs = [w] ∧ qi O w = some ds ∧ R (.d (.tuple ds)) O
theorem zbk : RefC K (fun xs H Q => ∃ p ys, xs = [.ref p] ∧ ((SqL K H p ys ∧ ∀ l, H l = none → Q (.ref l) (upd H l (.tup ys))) ∨ (SqT K H p ys ∧ Q (.ref p) H))) Xs := by
  rintro Γ O H xs vs S rs Q R ⟨w, ds, rfl, e, h⟩ k
  cases rs with
  | cons rx t =>
    cases t
    unfold qi at e
    split at e
    · rename_i es hT
      cases e
      obtain ⟨a, vs, e1, h1, h2⟩ := ve S rx hT
      subst e1
      refine ⟨a, vs, rfl, .inr ⟨h1, k _ _ _ _ _ (Le.refl _) S ?_ h⟩⟩
      cases w with
      | d x => cases x <;> simp [xz] at hT; subst hT; exact rx
      | own b => cases hT
      | row b i => cases hT
    · cases hL : yS O w with
      | none => rw [hL] at e; cases e
      | some ws =>
        rw [hL] at e
        obtain ⟨a, vs, e1, h1, h2⟩ := xM S rx hL
        rw [vf (show yP ws = some ds from e)] at h2
        subst e1
        refine ⟨a, vs, rfl, .inl ⟨h1, fun l hl => ?_⟩⟩
        obtain ⟨Γ', le, S', r'⟩ := jE S (yG h2) hl
        exact k _ _ _ _ _ le S' r' h
noncomputable def wI2 (g : Int → Int → Int) : List W → OM → WK → Prop := fun xs O R => ∃ i j, xs = [.d (.int i), .d (.int j)] ∧ R (.d (.int (g i j))) O
theorem zeh {g : Int → Int → Int} : RefC K (fun xs H Q => ∃ i j, xs = [.int i, .int j] ∧ Q (.int (g i j)) H) (wI2 g) := by
  rintro Γ O H xs vs S rs Q R ⟨i, j, rfl, h⟩ k
  cases rs with
  | cons rx t =>
    cases t with
    | cons ry t =>
      cases t
      exact ⟨i, j, by rw [show _ = V.int i from rx, show _ = V.int j from ry], k _ _ _ _ _ (Le.refl _) S ki h⟩
noncomputable def UK : TSW := fun D ρ O => D.nx ρ O
noncomputable def uf (T U : TSW) : TSW := fun D ρ O => T { D with nx := U D } ρ O
noncomputable def UL (T : TEW) : TSW := fun D ρ O => T ρ O fun _ O1 => D.nx ρ O1
noncomputable def Kb (T : TEW) : TSW := fun D ρ O => T ρ O D.rt
noncomputable def zdI : TSW := fun D _ O => D.rt (.d .none) O
noncomputable def Kc (c : TTW) (T U : TSW) : TSW := fun D ρ O => c ρ O fun b O1 => if b = true then T D ρ O1 else U D ρ O1
noncomputable def zcJ : TSW := fun _ _ _ => False
theorem Kd : RefS K KW UK := fun Γ O H ρ σ D DW S r h e => e.nx _ _ _ _ _ (Le.refl _) S r h
theorem Q3 : RefS K QD zcJ := fun Γ O H ρ σ D DW S r h e => h.elim
theorem zbl {t u : TS} {T U : TSW} (h : RefS K t T) (g : RefS K u U) : RefS K (zbX t u) (uf T U) := fun Γ O H ρ σ D DW S r hT e =>
  h Γ O H ρ σ { D with nx := u D } { DW with nx := U DW } S r hT ⟨fun Γ' O' H' ρ' σ' l S' r' h' => g _ _ _ _ _ _ _ S' r' h' (e.mono l), e.rt, e.bk, e.ct⟩
theorem Ke {t : TE} {T : TEW} (h : RefE K t T) : RefS K (KY t) (UL T) := fun Γ O H ρ σ D DW S r hT e =>
  h _ _ _ _ _ S r _ _ hT fun Γ1 O1 H1 w v l S1 r1 h1 => e.nx _ _ _ _ _ l S1 (r.mono l) h1
theorem zbm {t : TE} {T : TEW} (h : RefE K t T) : RefS K (zbY t) (Kb T) := fun Γ O H ρ σ D DW S r hT e =>
  h _ _ _ _ _ S r _ _ hT fun Γ1 O1 H1 w v l S1 r1 h1 => e.rt _ _ _ _ _ l S1 r1 h1
theorem zbn {c : TT} {C : TTW} {t u : TS} {T U : TSW} (hc : xZ K c C) (h : RefS K t T) (g : RefS K u U) : RefS K (zbZ c t u) (Kc C T U) := fun Γ O H ρ σ D DW S r hT e => by
  refine hc _ _ _ _ _ S r _ _ hT fun Γ1 O1 H1 b l S1 h1 => ?_
  cases b with
  | true => rw [if_pos rfl] at h1 ⊢; exact h _ _ _ _ _ _ _ S1 (r.mono l) h1 (e.mono l)
  | false => rw [if_neg (by decide)] at h1 ⊢; exact g _ _ _ _ _ _ _ S1 (r.mono l) h1 (e.mono l)
noncomputable def Kf (T : TEW) (G : TGW) : TSW := fun D ρ O => T ρ O fun x O1 => G x ρ O1 D.nx
theorem zbo {t : TE} {T : TEW} {g : TG} {G : TGW} (h : RefE K t T) (hg : RefG K g G) : RefS K (Uh t g) (Kf T G) := fun Γ O H ρ σ D DW S r hT e =>
  h _ _ _ _ _ S r _ _ hT fun Γ1 O1 H1 w v l S1 r1 h1 => hg _ _ _ _ _ _ _ S1 (r.mono l) r1 _ _ h1 fun Γ2 O2 H2 ρ2 σ2 l2 => e.nx _ _ _ _ _ (l.trans l2)
noncomputable def UM (i : Nat) : TGW := fun w ρ O R => R (ρ.set i (some w)) O
theorem Kg {i : Nat} : RefG K (k9 i) (UM i) := fun Γ O H ρ σ w v S r rw Q R h k => k _ _ _ _ _ (Le.refl _) S (Paired.setP r (show qW K Γ (some w) (some v) from rw)) h
noncomputable def zcK : TGsW := fun ds ρ O R => ds = [] ∧ R ρ O
noncomputable def zam (G : TGW) (U : TGsW) : TGsW := fun ds ρ O R => ∃ e es, ds = e :: es ∧ G (.d e) ρ O fun ρ' O' => U es ρ' O' R
theorem Kh : RefGs K zb1 zcK := by
  rintro Γ O H ρ σ ds vs S r rs Q R ⟨rfl, h⟩ k
  exact ⟨rs, k _ _ _ _ _ (Le.refl _) S r h⟩
theorem Q4 {t : TG} {u : TGs} {G : TGW} {U : TGsW} (h : RefG K t G) (g : RefGs K u U) : RefGs K (KZ t u) (zam G U) := by
  rintro Γ O H ρ σ ds vs S r rs Q R ⟨e, es, rfl, hh⟩ k
  obtain ⟨x, xs, rfl, h1, h2⟩ := rs
  refine ⟨x, xs, rfl, h _ _ _ _ _ _ _ S r (zdy h1) _ _ hh fun Γ1 O1 H1 ρ1 σ1 l1 S1 r1 q1 => ?_⟩
  exact g _ _ _ _ _ _ _ S1 r1 (Reps.same l1.z _ _ h2) _ _ q1 fun Γ2 O2 H2 ρ2 σ2 l2 => k _ _ _ _ _ (l1.trans l2)
noncomputable def zcL (n : Nat) (U : TGsW) : TGW := fun w ρ O R => ∃ ds, xz w = some ds ∧ ds.length = n ∧ U ds ρ O R
theorem Ki {n : Nat} {t : TGs} {U : TGsW} (h : RefGs K t U) : RefG K (JB K n t) (zcL n U) := by
  rintro Γ O H ρ σ w v S r rw Q R ⟨ds, e, hl, hh⟩ k
  obtain ⟨a, vs, e1, h1, h2⟩ := ve S rw e
  refine ⟨a, vs, e1, h1, by rw [← Paired.length h2, List.length_map]; exact hl, h _ _ _ _ _ _ _ S r (yG h2) _ _ hh k⟩
noncomputable def uI (O : OM) (o : W) (k : Int) (w : W) : Option OM := match o with
  | .own a => match O a with
    | some (.lst ws) => (ixN ws.length k).map fun j => updO O a (.lst (ws.set j w))
    | _ => none
  | .row a r => match O a, w with
    | some (.grid rows), .d x => match rows[r]? with
      | some ds => (ixN ds.length k).map fun j => updO O a (.grid (rows.set r (ds.set j x)))
      | none => none
    | _, _ => none
  | _ => none
noncomputable def zcM (To Ti : TEW) : TGW := fun w ρ O R => To ρ O fun o O1 => Ti ρ O1 fun i O2 => ∃ k O3, i = .d (.int k) ∧ uI O2 o k w = some O3 ∧ R ρ O3
theorem Kj {to ti : TE} {To Ti : TEW} (ho : RefE K to To) (hi : RefE K ti Ti) : RefG K (zb3 to ti K5) (zcM To Ti) := by
  rintro Γ O H ρ σ w v S r rw Q R h k
  refine ho _ _ _ _ _ S r _ _ h fun Γ1 O1 H1 o vo l1 S1 ro h1 => ?_
  refine hi _ _ _ _ _ S1 (r.mono l1) _ _ h1 fun Γ2 O2 H2 i vi l2 S2 ri h2 => ?_
  obtain ⟨n, O3, rfl, e, h2⟩ := h2
  have ro2 := ro.mono l2
  have rw2 := rw.mono (l1.trans l2)
  cases (show vi = .int n from ri)
  cases o with
  | d x => cases e
  | own a =>
    cases (show vo = .ref a from ro2)
    simp only [uI] at e
    split at e
    · rename_i ws hO
      cases hj : ixN ws.length n with
      | none => rw [hj] at e; cases e
      | some j =>
        rw [hj] at e
        cases e
        obtain ⟨_, us, q1, q2⟩ := S2.o _ _ hO
        refine ⟨a, us, n, j, rfl, rfl, q1, by rw [← Paired.length q2]; exact hj, ?_⟩
        exact k _ _ _ _ _ (l1.trans l2) (S2.put (oo := .lst _) hO (by intro _ h; cases h) (by intro _ h; cases h) ⟨_, zX, Paired.setP q2 rw2⟩) (r.mono (l1.trans l2)) h2
    · cases e
  | row a i =>
    obtain ⟨rs, r0, hg, hr, rfl⟩ := ro2
    simp only [uI] at e
    split at e
    · rename_i rows x hO
      cases hd : rows[i]? with
      | none => rw [hd] at e; cases e
      | some ds =>
        rw [hd] at e
        simp only at e
        cases hj : ixN ds.length n with
        | none => rw [hj] at e; cases e
        | some j =>
          rw [hj] at e
          cases e
          obtain ⟨_, rs', hg', _, hl, _, hrow⟩ := S2.o _ _ hO
          rw [hg] at hg'
          cases hg'
          obtain ⟨_, _, us, q1, q2⟩ := hrow i r0 ds hr hd
          refine ⟨r0, us, n, j, rfl, rfl, q1, by rw [← Reps.length q2]; exact hj, ?_⟩
          exact k _ _ _ _ _ (l1.trans l2) (S2.cell hO hg hr hd q1 rw2) (r.mono (l1.trans l2)) h2
    · cases e
end
end L2
namespace L2
open PySem PySem.Spec PyProof.Rows
section
variable {K : PySem.W.Frag}
noncomputable def zcN (K : PySem.W.Frag) (Γ : Gh) (J : It) (ws : List W) (keep : OM → Prop) : Prop := ∀ i Γ' O' H', Same Γ.Z Γ'.Z → (∀ a rs, Γ.G a = some rs → ∃ more, Γ'.G a = some (rs ++ more)) → Sim K Γ' O' H' → keep O' →
  (∀ w, ws[i]? = some w → J.go i H' ∧ ∀ x H2, J.yld i H' x H2 → ∃ Γ2, Le Γ' Γ2 ∧ Sim K Γ2 O' H2 ∧ relW K Γ2 w x) ∧ (i = ws.length → J.stop i H')
noncomputable abbrev TIW := WS → OM → (List W → (OM → Prop) → OM → Prop) → Prop
noncomputable def qY (K : PySem.W.Frag) (t : TI) (T : TIW) : Prop := ∀ Γ O H ρ σ, Sim K Γ O H → relR K Γ ρ σ → ∀ (Q : It → Hp → Prop) (R : List W → (OM → Prop) → OM → Prop), T ρ O R → (∀ Γ' O' H' J ws keep, Le Γ Γ' → Sim K Γ' O' H' → zcN K Γ' J ws keep → R ws keep O' → Q J H') → t σ H Q
theorem relW.up {Γ Γ' : Gh} (hz : Same Γ.Z Γ'.Z) (hg : ∀ a rs, Γ.G a = some rs → ∃ more, Γ'.G a = some (rs ++ more)) {w : W} {v : V} (h : relW K Γ w v) : relW K Γ' w v := by
  have h1 : relW K ⟨Γ'.Z, Γ'.G, Γ.F⟩ w v := relW.mono (Γ := Γ) (Γ' := ⟨Γ'.Z, Γ'.G, Γ.F⟩) ⟨rfl, hz, hg⟩ h
  cases w <;> exact h1
noncomputable def zan (T : TEW) : TIW := fun ρ O R => T ρ O fun w O1 => ∃ ws, yS O1 w = some ws ∧ R ws (fun O' => yS O' w = some ws) O1
theorem Q5 {t : TE} {T : TEW} (h : RefE K t T) : qY K (Uk K t) (zan T) := by
  intro Γ O H ρ σ S r Q R hT k
  refine h _ _ _ _ _ S r _ _ hT fun Γ1 O1 H1 w v l1 S1 r1 h1 => ?_
  obtain ⟨ws, e, h1⟩ := h1
  obtain ⟨a, vs, rfl, q1, q2⟩ := xM S1 r1 e
  refine ⟨a, rfl, ⟨vs, q1⟩, k _ _ _ _ _ _ l1 S1 (fun i Γ' O' H' hz hg S' e' => ?_) h1⟩
  obtain ⟨a', vs', ea, q1', q2'⟩ := xM S' (r1.up hz hg) e'
  cases ea
  refine ⟨fun w' hw => ?_, fun hi => ⟨vs', q1', by rw [← Paired.length q2', hi]; exact Nat.le_refl _⟩⟩
  obtain ⟨x, hx, rx⟩ := Paired.getP q2' hw
  refine ⟨⟨vs', x, q1', hx⟩, fun y H2 ⟨e2, hy⟩ => ?_⟩
  subst e2
  have := hy vs' q1'
  rw [hx] at this
  cases this
  exact ⟨Γ', Le.refl _, S', rx⟩
noncomputable def zcO (T : TEW) : TIW := fun ρ O R => T ρ O fun w O1 => ∃ ds, xz w = some ds ∧ R (ds.map .d) (fun _ => True) O1
theorem Kk {t : TE} {T : TEW} (h : RefE K t T) : qY K (JC K t) (zcO T) := by
  intro Γ O H ρ σ S r Q R hT k
  refine h _ _ _ _ _ S r _ _ hT fun Γ1 O1 H1 w v l1 S1 r1 h1 => ?_
  obtain ⟨ds, e, h1⟩ := h1
  obtain ⟨a, vs, rfl, q1, q2⟩ := ve S1 r1 e
  refine ⟨a, rfl, ⟨vs, q1⟩, k _ _ _ _ _ _ l1 S1 (fun i Γ' O' H' hz hg S' e' => ?_) h1⟩
  obtain ⟨a', vs', ea, q1', q2'⟩ := ve S' (r1.up hz hg) e
  cases ea
  refine ⟨fun w' hw => ?_, fun hi => ⟨vs', q1', by rw [← Paired.length q2', hi]; exact Nat.le_refl _⟩⟩
  obtain ⟨x, hx, rx⟩ := Paired.getP q2' hw
  refine ⟨⟨vs', x, q1', hx⟩, fun y H2 ⟨e2, hy⟩ => ?_⟩
  subst e2
  have := hy vs' q1'
  rw [hx] at this
  cases this
  exact ⟨Γ', Le.refl _, S', rx⟩
theorem Xt {Γ : Gh} {n : Nat} {f : Nat → Int} {J : It} (hgo : ∀ i H, i < n → J.go i H) (hy : ∀ i H x H', J.yld i H x H' → H' = H ∧ x = .int (f i)) (hs : ∀ i H, n ≤ i → J.stop i H) : zcN K Γ J ((List.range n).map fun i => .d (.int (f i))) fun _ => True := by
  intro i Γ' O' H' hz hg S' _
  refine ⟨fun w hw => ?_, fun hi => hs i _ (by rw [hi]; simp)⟩
  rw [List.getElem?_map] at hw
  cases hr : (List.range n)[i]? with
  | none => rw [hr] at hw; cases hw
  | some j =>
    rw [hr] at hw
    cases hw
    obtain ⟨hi, hj⟩ := List.getElem?_eq_some_iff.mp hr
    simp at hi hj
    subst hj
    refine ⟨hgo i _ hi, fun x H2 y => ?_⟩
    obtain ⟨rfl, rfl⟩ := hy i _ x H2 y
    exact ⟨Γ', Le.refl _, S', ki⟩
noncomputable def zao (T : TAW) : TIW := fun ρ O R => T ρ O fun ws O1 => ∃ j : Int, ws = [.d (.int j)] ∧ -(2 ^ 62) ≤ j ∧ j < 2 ^ 62 ∧ R ((List.range j.toNat).map fun (i : Nat) => .d (.int i)) (fun _ => True) O1
theorem Q6 {t : TA} {T : TAW} (h : xN K t T) : qY K (K0 t) (zao T) := by
  intro Γ O H ρ σ S r Q R hT k
  refine h _ _ _ _ _ S r _ _ hT fun Γ1 O1 H1 ws vs l1 S1 r1 h1 => ?_
  obtain ⟨j, rfl, b1, b2, h1⟩ := h1
  cases r1 with
  | cons rx t =>
    cases t
    refine ⟨j, by rw [show _ = V.int j from rx], b1, b2, k _ _ _ _ _ _ l1 S1 (Xt (f := fun i => (i : Int)) (fun i H hi => hi) (fun i H x H' ⟨e1, e2⟩ => ⟨e1, by rw [e2, Int.zero_add]⟩) fun i H hi => hi) h1⟩
noncomputable def zap (T : TAW) : TIW := fun ρ O R => T ρ O fun ws O1 => ∃ i j : Int, ws = [.d (.int i), .d (.int j)] ∧ (-(2 ^ 62) ≤ i ∧ i < 2 ^ 62 ∧ -(2 ^ 62) ≤ j ∧ j < 2 ^ 62) ∧ R ((List.range (j - i).toNat).map fun (k : Nat) => .d (.int (i + k))) (fun _ => True) O1
theorem Q7 {t : TA} {T : TAW} (h : xN K t T) : qY K (K1 t) (zap T) := by
  intro Γ O H ρ σ S r Q R hT k
  refine h _ _ _ _ _ S r _ _ hT fun Γ1 O1 H1 ws vs l1 S1 r1 h1 => ?_
  obtain ⟨i, j, rfl, b, h1⟩ := h1
  cases r1 with
  | cons rx t =>
    cases t with
    | cons ry t =>
      cases t
      exact ⟨i, j, by rw [show _ = V.int i from rx, show _ = V.int j from ry], b, k _ _ _ _ _ _ l1 S1 (Xt (f := fun k => i + (k : Int)) (fun i H hi => hi) (fun i H x H' ⟨e1, e2⟩ => ⟨e1, e2⟩) fun i H hi => hi) h1⟩
noncomputable def zaq (T : TAW) : TIW := fun ρ O R => T ρ O fun ws O1 => ∃ (i j c : Int) (n : Nat), ws = [.d (.int i), .d (.int j), .d (.int c)] ∧ R3 i j c n ∧ R ((List.range n).map fun (k : Nat) => .d (.int (i + k * c))) (fun _ => True) O1
theorem Q8 {t : TA} {T : TAW} (h : xN K t T) : qY K (zad t) (zaq T) := by
  intro Γ O H ρ σ S r Q R hT k
  refine h _ _ _ _ _ S r _ _ hT fun Γ1 O1 H1 ws vs l1 S1 r1 h1 => ?_
  obtain ⟨i, j, c, n, rfl, b, h1⟩ := h1
  cases r1 with
  | cons rx t =>
    cases t with
    | cons ry t =>
      cases t with
      | cons rz t =>
        cases t
        exact ⟨i, j, c, n, by rw [show _ = V.int i from rx, show _ = V.int j from ry, show _ = V.int c from rz], b, k _ _ _ _ _ _ l1 S1 (Xt (f := fun k => i + (k : Int) * c) (fun i H hi => hi) (fun i H x H' ⟨e1, e2⟩ => ⟨e1, e2⟩) fun i H hi => hi) h1⟩
noncomputable def xA (ws : List W) (keep : OM → Prop) (G : TGW) (TB : TSW) (D : EndsW) (ρ : WS) (O : OM) : Prop := ∃ Pv : Nat → WS → OM → Prop, Pv 0 ρ O ∧ (∀ i ρ O, Pv i ρ O → keep O) ∧
  (∀ i w ρ O, ws[i]? = some w → Pv i ρ O → G w ρ O fun ρ' O' => TB { D with nx := Pv (i + 1), ct := Pv (i + 1), bk := D.nx } ρ' O') ∧ ∀ ρ O, Pv ws.length ρ O → D.nx ρ O
noncomputable def zcP (Wi : TIW) (G : TGW) (TB : TSW) : TSW := fun D ρ O => Wi ρ O fun ws keep O1 => xA ws keep G TB D ρ O1
theorem zbp {wi : TI} {Wi : TIW} {g : TG} {G : TGW} {tb : TS} {TB : TSW} (hi : qY K wi Wi) (hg : RefG K g G) (hb : RefS K tb TB) : RefS K (zb6 wi g tb) (zcP Wi G TB) := by
  intro Γ O H ρ σ D DW S r hT e
  refine hi _ _ _ _ _ S r _ _ hT fun Γ1 O1 H1 J ws keep l1 S1 ok h1 => ?_
  obtain ⟨Pv, p0, pk, ps, pd⟩ := h1
  refine ⟨fun i m σ' H' => i ≤ ws.length ∧ m = ws.length - i ∧ ∃ Γ' O' ρ', Le Γ1 Γ' ∧ Sim K Γ' O' H' ∧ relR K Γ' ρ' σ' ∧ Pv i ρ' O', ⟨_, Nat.zero_le _, rfl, Γ1, O1, ρ, Le.refl _, S1, r.mono l1, p0⟩, ?_⟩
  rintro i m σ' H' ⟨hi, rfl, Γ', O', ρ', l', S', r', p'⟩
  obtain ⟨ok1, ok2⟩ := ok i Γ' O' H' l'.z l'.g S' (pk _ _ _ p')
  by_cases hlt : i < ws.length
  · obtain ⟨go, y⟩ := ok1 _ (List.getElem?_eq_getElem hlt)
    refine .inr ⟨go, fun σ2 H2 => ∃ Γ2 O2 ρ2, Le Γ1 Γ2 ∧ Sim K Γ2 O2 H2 ∧ relR K Γ2 ρ2 σ2 ∧ Pv (i + 1) ρ2 O2, fun σ2 H2 ⟨Γ2, O2, ρ2, l2, S2, r2, p2⟩ => ⟨ws.length - (i + 1), by omega, hlt, rfl, Γ2, O2, ρ2, l2, S2, r2, p2⟩, fun x H2 hy => ?_⟩
    obtain ⟨Γ2, l2, S2, rx⟩ := y x H2 hy
    refine hg _ _ _ _ _ _ _ S2 (r'.mono l2) rx _ _ (ps i _ ρ' O' (List.getElem?_eq_getElem hlt) p') fun Γ3 O3 H3 ρ3 σ3 l3 S3 r3 h3 => ?_
    have l13 := (l'.trans l2).trans l3
    refine hb _ _ _ _ _ _ _ S3 r3 h3 ⟨fun Γ4 O4 H4 ρ4 σ4 l4 S4 r4 h4 => ⟨Γ4, O4, ρ4, l13.trans l4, S4, r4, h4⟩, fun Γ4 O4 H4 w v l4 => e.rt _ _ _ _ _ ((l1.trans l13).trans l4), fun Γ4 O4 H4 ρ4 σ4 l4 => e.nx _ _ _ _ _ ((l1.trans l13).trans l4), fun Γ4 O4 H4 ρ4 σ4 l4 S4 r4 h4 => ⟨Γ4, O4, ρ4, l13.trans l4, S4, r4, h4⟩⟩
  · have hi2 : i = ws.length := by omega
    refine .inl ⟨ok2 hi2, e.nx _ _ _ _ _ (l1.trans l') S' r' (pd _ _ ?_)⟩
    rw [← hi2]; exact p'
noncomputable def xw (js : List Nat) (ρ : WS) : WS := js.map fun j => (ρ[j]?).join
theorem jF {Γ : Gh} {ρ : WS} {σ : St} (r : relR K Γ ρ σ) (n : Nat) (js : List Nat) : relR K Γ (List.replicate n none ++ xw js ρ) (qU n js σ) := by
  refine Paired.appP ?_ ?_
  · induction n with
    | zero => exact .nil
    | succ n ih => exact .cons trivial ih
  · unfold xw
    induction js with
    | nil => exact .nil
    | cons j js ih =>
      refine .cons ?_ ih
      show qW K Γ (ρ[j]?.join) (σ[j]?.join)
      cases h : ρ[j]? with
      | none => exact trivial
      | some o =>
        cases o with
        | none => exact trivial
        | some w =>
          obtain ⟨v, hv, rv⟩ := r.get h
          rw [hv]
          exact rv
noncomputable def YR (G : TGW) (T : TTW) (E : TEW) (n : Nat) (xQ : WS) (w : W) (ρ : WS) (O : OM) (k : Option W → OM → Prop) : Prop :=
  G w ρ O fun ρ1 O1 => (ρ1.length = n + xQ.length ∧ ρ1.drop n = xQ) ∧ T ρ1 O1 fun ok O2 => if ok = true then E ρ1 O2 fun y O3 => k (some y) O3 else k none O2
noncomputable def wLc (Wi : TIW) (n : Nat) (js : List Nat) (G : TGW) (T : TTW) (E : TEW) : TEW := fun ρ O R => Wi ρ O fun ws keep O1 => keep O1 ∧ ws.length ≤ 1000 ∧ ∃ F : W → Option PyData,
  (∀ w ∈ ws, ∀ us : WS, us.length = n → YR G T E n (xw js ρ) w (us ++ xw js ρ) O1 fun y O2 => O2 = O1 ∧ y = (F w).map .d) ∧ R (.d (.list (ws.filterMap F))) O1
theorem kQ {n : Nat} {xQ ρ : WS} (h1 : ρ.length = n + xQ.length) (h2 : ρ.drop n = xQ) : ∃ us : WS, us.length = n ∧ ρ = us ++ xQ := ⟨ρ.take n, by rw [List.length_take]; omega, by rw [← h2, List.take_append_drop]⟩
theorem zcQ {wi : TI} {Wi : TIW} {n : Nat} {js : List Nat} {g : TG} {G : TGW} {tt : TT} {T : TTW} {te : TE} {E : TEW} (hi : qY K wi Wi) (hg : RefG K g G) (ht : xZ K tt T) (he : RefE K te E) : RefE K (tLc wi n js g tt te) (wLc Wi n js G T E) := by
  intro Γ O H ρ σ S r Q R hT k
  refine hi _ _ _ _ _ S r _ _ hT fun Γ1 O1 H1 J ws keep l1 S1 ok h1 => ?_
  obtain ⟨hk, hlen, F, hF, hR⟩ := h1
  intro D hD
  have hFD : Γ1.F D = none := S1.f.free hD
  have r1 := jF (r.mono l1) n js
  refine ⟨fun i m σ' H' => i ≤ ws.length ∧ m = ws.length - i ∧ ∃ Γ' ρ' vs, Same Γ1.Z Γ'.Z ∧ (∀ a rs, Γ1.G a = some rs → ∃ more, Γ'.G a = some (rs ++ more)) ∧ Γ'.F = upd Γ1.F D (.lst vs) ∧ Sim K Γ' O1 H' ∧ relR K Γ' ρ' σ' ∧
    ρ'.length = n + (xw js ρ).length ∧ ρ'.drop n = xw js ρ ∧ Reps K Γ'.Z ((ws.take i).filterMap F) vs, ⟨_, Nat.zero_le _, rfl, _, _, [], Same.refl _, fun a rs h => ⟨[], by rw [List.append_nil]; exact h⟩, rfl, S1.frameNew hD (.lst []), r1.setF, by simp, by simp, rfl⟩, ?_⟩
  rintro i m σ' H' ⟨hi, rfl, Γ', ρ', vs, z', g', f', S', r', n1, n2, rp⟩
  obtain ⟨ok1, ok2⟩ := ok i Γ' O1 H' z' g' S' hk
  have hvl : vs.length ≤ i := by
    rw [← Reps.length rp]
    exact Nat.le_trans (List.length_filterMap_le _ _) (by rw [List.length_take]; omega)
  by_cases hlt : i < ws.length
  · obtain ⟨go, y⟩ := ok1 _ (List.getElem?_eq_getElem hlt)
    refine .inr ⟨go, fun σ2 H2 => ∃ Γ2 ρ2 vs2, Same Γ1.Z Γ2.Z ∧ (∀ a rs, Γ1.G a = some rs → ∃ more, Γ2.G a = some (rs ++ more)) ∧ Γ2.F = upd Γ1.F D (.lst vs2) ∧ Sim K Γ2 O1 H2 ∧ relR K Γ2 ρ2 σ2 ∧
      ρ2.length = n + (xw js ρ).length ∧ ρ2.drop n = xw js ρ ∧ Reps K Γ2.Z ((ws.take (i + 1)).filterMap F) vs2, fun σ2 H2 h => ⟨ws.length - (i + 1), by omega, hlt, rfl, h⟩, fun x H2 hy => ?_⟩
    obtain ⟨Γ2, l2, S2, rx⟩ := y x H2 hy
    obtain ⟨us, hus, rfl⟩ := kQ n1 n2
    have et : ws.take (i + 1) = ws.take i ++ [ws[i]] := (List.take_append_getElem hlt).symm
    refine hg _ _ _ _ _ _ _ S2 (r'.mono l2) rx _ _ (hF _ (List.getElem_mem hlt) us hus) fun Γ3 O3 H3 ρ3 σ3 l3 S3 r3 h3 => ?_
    obtain ⟨⟨m1, m2⟩, h3⟩ := h3
    refine ht _ _ _ _ _ S3 r3 _ _ h3 fun Γ4 O4 H4 b l4 S4 h4 => ?_
    have l24 := (l2.trans l3).trans l4
    have up : ∀ Γ5, Le Γ' Γ5 → Same Γ1.Z Γ5.Z ∧ (∀ a rs, Γ1.G a = some rs → ∃ more, Γ5.G a = some (rs ++ more)) := fun Γ5 l => ⟨z'.trans l.z, fun a rs h => by
      obtain ⟨m, e⟩ := g' a rs h
      obtain ⟨m2, e2⟩ := l.g a _ e
      exact ⟨m ++ m2, by rw [← List.append_assoc]; exact e2⟩⟩
    cases b with
    | true =>
      rw [if_pos rfl] at h4 ⊢
      refine he _ _ _ _ _ S4 (r3.mono l4) _ _ h4 fun Γ5 O5 H5 w5 v5 l5 S5 r5 h5 => ?_
      obtain ⟨rfl, h5⟩ := h5
      have l25 := l24.trans l5
      cases hFw : F ws[i] with
      | none => rw [hFw] at h5; cases h5
      | some d =>
        rw [hFw] at h5
        cases h5
        have f5 : Γ5.F = upd Γ1.F D (.lst vs) := by rw [l25.f, f']
        have fD : Γ5.F D = some (.lst vs) := by rw [f5, zX]
        refine ⟨vs, S5.f _ _ fD, x5 (by omega), ?_⟩
        obtain ⟨u1, u2⟩ := up Γ5 l25
        refine ⟨⟨Γ5.Z, Γ5.G, upd Γ5.F D (.lst (vs ++ [v5]))⟩, ρ3, vs ++ [v5], u1, u2, ?_, S5.framePut fD _, ((r3.mono l4).mono l5).setF, m1, m2, ?_⟩
        · show upd Γ5.F D _ = _
          rw [f5, VR]
        · rw [et, List.filterMap_append]
          have : ([ws[i]] : List W).filterMap F = [d] := by simp [hFw]
          rw [this]
          exact Reps.snoc (Reps.same l25.z _ _ rp) r5
    | false =>
      rw [if_neg (by decide)] at h4 ⊢
      obtain ⟨rfl, h4⟩ := h4
      obtain ⟨u1, u2⟩ := up Γ4 l24
      refine ⟨Γ4, ρ3, vs, u1, u2, by rw [l24.f, f'], S4, r3.mono l4, m1, m2, ?_⟩
      cases hFw : F ws[i] with
      | some d => rw [hFw] at h4; cases h4
      | none =>
        rw [et, List.filterMap_append]
        have : ([ws[i]] : List W).filterMap F = [] := by simp [hFw]
        rw [this, List.append_nil]
        exact Reps.same l24.z _ _ rp
  · have hi2 : i = ws.length := by omega
    subst hi2
    refine .inl ⟨ok2 rfl, ?_⟩
    rw [List.take_length] at rp
    obtain ⟨q1, q2, q3⟩ := S'.unframe f' hFD rp
    exact k ⟨upd Γ'.Z D (.lst vs), Γ'.G, Γ1.F⟩ _ _ _ _ (l1.trans ⟨rfl, z'.trans q1, g'⟩) q2 q3 hR
end
end L2
namespace L2
open PySem PySem.Spec PyProof.Rows
section
variable {K : PySem.W.Frag}
noncomputable def xh {α : Type} (f : Str) (v : α) : List (Str × α) → List (Str × α)
  | [] => [(f, v)]
  | (g, x) :: r => if g = f then (g, v) :: r else (g, x) :: xh f v r
theorem UN {Γ : Gh} {f : Str} {w : W} {v : V} (r : relW K Γ w v) {fs : List (Str × W)} {vs : List (Str × V)} (h : xf K Γ fs vs) : xf K Γ (xh f w fs) (xY f v vs) := by
  unfold xf at h ⊢
  induction h with
  | nil => exact .cons ⟨rfl, r⟩ .nil
  | cons a b ih =>
    rename_i p q ps qs
    obtain ⟨k, x⟩ := p
    obtain ⟨k', y⟩ := q
    obtain ⟨e1, e2⟩ := a
    cases (show k = k' from e1)
    simp only [xh, xY]
    split
    · exact .cons ⟨rfl, r⟩ b
    · exact .cons ⟨rfl, e2⟩ ih
noncomputable def jG : W → Option Key
  | .d (.int i) => some (.inl i)
  | .d (.str x) => some (.inr x)
  | _ => none
theorem kl {Γ : Gh} {w : W} {v : V} {k : Key} (r : relW K Γ w v) (e : jG w = some k) : v = kV k := by
  cases w with
  | d x =>
    cases x <;> simp [jG] at e
    · subst e; exact r
    · subst e; exact r
  | own a => cases e
  | row a i => cases e
section
variable {κ α : Type} [DecidableEq κ]
noncomputable def y8 (kvs : List (κ × α)) (k : κ) : Option α := (kvs.find? fun kv => decide (kv.1 = k)).map (·.2)
noncomputable def yV (kvs : List (κ × α)) (k : κ) (v : α) : List (κ × α) := if (kvs.any fun kv => decide (kv.1 = k)) = true then kvs.map (fun kv => if kv.1 = k then (kv.1, v) else kv) else kvs ++ [(k, v)]
noncomputable def ub (kvs more : List (κ × α)) : List (κ × α) := more.foldl (fun acc kv => yV acc kv.1 kv.2) kvs
end
theorem jH {Γ : Gh} {k : Key} {kvs : List (Key × W)} {vs : List (Key × V)} (h : xf K Γ kvs vs) : (y8 kvs k = none → x6 vs k = none) ∧ ∀ w, y8 kvs k = some w → ∃ v, x6 vs k = some v ∧ relW K Γ w v := by
  unfold xf at h
  induction h with
  | nil => exact ⟨fun _ => rfl, fun w e => by cases e⟩
  | cons a b ih =>
    rename_i p q ps qs
    obtain ⟨k1, x⟩ := p
    obtain ⟨k', y⟩ := q
    obtain ⟨e1, e2⟩ := a
    cases (show k1 = k' from e1)
    simp only [y8, x6, List.find?_cons] at ih ⊢
    by_cases hk : k1 = k
    · simp [hk]; exact e2
    · simp only [hk, decide_false]; exact ih
theorem Q9 {Γ : Gh} {k : Key} {kvs : List (Key × W)} {vs : List (Key × V)} (h : xf K Γ kvs vs) : (kvs.any fun kv => decide (kv.1 = k)) = vs.any fun kv => decide (kv.1 = k) := by
  unfold xf at h
  induction h with
  | nil => rfl
  | cons a b ih => rw [List.any_cons, List.any_cons, a.1, ih]
theorem Ys {Γ : Gh} {k : Key} {w : W} {v : V} (r : relW K Γ w v) {kvs : List (Key × W)} {vs : List (Key × V)} (h : xf K Γ kvs vs) : xf K Γ (yV kvs k w) (xR vs k v) := by
  unfold yV xR
  rw [Q9 h]
  split
  · have key : ∀ {kvs : List (Key × W)} {vs : List (Key × V)}, xf K Γ kvs vs → xf K Γ (kvs.map fun kv => if kv.1 = k then (kv.1, w) else kv) (vs.map fun kv => if kv.1 = k then (kv.1, v) else kv) := fun {kvs vs} h => by
      unfold xf at h ⊢
      induction h with
      | nil => exact .nil
      | cons a b ih =>
        rename_i p q ps qs
        obtain ⟨k1, x⟩ := p
        obtain ⟨k', y⟩ := q
        obtain ⟨e1, e2⟩ := a
        cases (show k1 = k' from e1)
        refine .cons ?_ ih
        dsimp only
        split
        · exact ⟨rfl, r⟩
        · exact ⟨rfl, e2⟩
    exact key h
  · exact Paired.appP h (.cons ⟨rfl, r⟩ .nil)
theorem qj {Γ : Gh} {more : List (Key × W)} {ms : List (Key × V)} (g : xf K Γ more ms) : ∀ {kvs : List (Key × W)} {vs : List (Key × V)}, xf K Γ kvs vs → xf K Γ (ub kvs more) (xV vs ms) := by
  unfold ub xV
  unfold xf at g
  induction g with
  | nil => exact fun h => h
  | cons a b ih =>
    rename_i p q ps qs
    intro kvs vs h
    obtain ⟨k1, x⟩ := p
    obtain ⟨k', y⟩ := q
    obtain ⟨e1, e2⟩ := a
    cases (show k1 = k' from e1)
    exact ih (Ys e2 h)
noncomputable def Ja (Td Ty Tx : TEW) : TEW := fun ρ O R => Td ρ O fun x O1 => ∃ a, x = .own a ∧ (∃ kvs, O1 a = some (.dK kvs)) ∧ Ty ρ O1 fun y O2 => Tx ρ O2 fun z O3 => ∃ kvs k, O3 a = some (.dK kvs) ∧ jG y = some k ∧ R ((y8 kvs k).getD z) O3
theorem Jb {td ty tx : TE} {Td Ty Tx : TEW} (hd : RefE K td Td) (hy : RefE K ty Ty) (hx : RefE K tx Tx) : RefE K (QW td ty tx) (Ja Td Ty Tx) := by
  intro Γ O H ρ σ S r0 Q R hT k
  refine hd Γ O H ρ σ S r0 _ _ hT fun Γ1 O1 H1 x v l1 S1 rx h1 => ?_
  obtain ⟨a, rfl, ⟨kvs0, ho0⟩, h1⟩ := h1
  obtain ⟨_, vs0, p1, _⟩ := S1.o _ _ ho0
  refine ⟨a, rx, .inl ⟨vs0, .inl p1⟩, ?_⟩
  refine hy _ _ _ _ _ S1 (r0.mono l1) _ _ h1 fun Γ2 O2 H2 y u l2 S2 ry h2 => ?_
  refine hx _ _ _ _ _ S2 (r0.mono (l1.trans l2)) _ _ h2 fun Γ3 O3 H3 z t l3 S3 rz h3 => ?_
  obtain ⟨kvs, ky, ho, ek, h3⟩ := h3
  obtain ⟨_, vs, q1, q2⟩ := S3.o _ _ ho
  refine ⟨x6 vs ky, by rw [kl (ry.mono l3) ek]; exact uH.k q1, k _ _ _ _ _ ((l1.trans l2).trans l3) S3 ?_ h3⟩
  cases e : y8 kvs ky with
  | none => rw [(jH q2).1 e]; exact rz
  | some w => obtain ⟨z', e', r'⟩ := (jH q2).2 w e; rw [e']; exact r'
noncomputable def Zu : List (TEW × TEW) → WS → OM → (List (W × W) → OM → Prop) → Prop
  | [], _, O, R => R [] O
  | (Tk, Tv) :: ts, ρ, O, R => Tk ρ O fun k O1 => Tv ρ O1 fun v O2 => Zu ts ρ O2 fun ps O3 => R ((k, v) :: ps) O3
inductive RefPs (K : PySem.W.Frag) : List (TE × TE) → List (TEW × TEW) → Prop
  | nil : RefPs K [] []
  | cons {tk tv : TE} {Tk Tv : TEW} {ts : List (TE × TE)} {Ts : List (TEW × TEW)} : RefE K tk Tk → RefE K tv Tv → RefPs K ts Ts → RefPs K ((tk, tv) :: ts) ((Tk, Tv) :: Ts)
theorem Jc {ts : List (TE × TE)} {Ts : List (TEW × TEW)} (h : RefPs K ts Ts) : ∀ Γ O H ρ σ, Sim K Γ O H → relR K Γ ρ σ → ∀ (Q : List (V × V) → Hp → Prop) (R : List (W × W) → OM → Prop), Zu Ts ρ O R →
    (∀ Γ' O' H' ws vs, Le Γ Γ' → Sim K Γ' O' H' → Paired (fun p q => relW K Γ' p.1 q.1 ∧ relW K Γ' p.2 q.2) ws vs → R ws O' → Q vs H') → Zn ts σ H Q := by
  induction h with
  | nil => intro Γ O H ρ σ S r Q R hT k; exact k _ _ _ _ _ (Le.refl _) S .nil hT
  | cons hk hv _ ih =>
    intro Γ O H ρ σ S r Q R hT k
    refine hk _ _ _ _ _ S r _ _ hT fun Γ1 O1 H1 w v l1 S1 r1 h1 => ?_
    refine hv _ _ _ _ _ S1 (r.mono l1) _ _ h1 fun Γ2 O2 H2 w2 v2 l2 S2 r2 h2 => ?_
    exact ih _ _ _ _ _ S2 (r.mono (l1.trans l2)) _ _ h2 fun Γ3 O3 H3 ws vs l3 S3 rs h3 => k _ _ _ _ _ ((l1.trans l2).trans l3) S3 (.cons ⟨(r1.mono l2).mono l3, r2.mono l3⟩ rs) h3
noncomputable def YS : List (W × W) → Option (List (Key × W))
  | [] => some []
  | (k, v) :: ps => match jG k, YS ps with
    | some k', some r => some ((k', v) :: r)
    | _, _ => none
theorem Jd {Γ : Gh} {ps : List (W × W)} {vs : List (V × V)} (r : Paired (fun p q => relW K Γ p.1 q.1 ∧ relW K Γ p.2 q.2) ps vs) : ∀ {kvs : List (Key × W)}, YS ps = some kvs → ∃ us : List (Key × V), vs = us.map (fun kv => (kV kv.1, kv.2)) ∧ xf K Γ kvs us := by
  induction r with
  | nil => intro kvs e; cases e; exact ⟨[], rfl, .nil⟩
  | cons a b ih =>
    rename_i p q ps qs
    intro kvs e
    obtain ⟨k, v⟩ := p
    obtain ⟨k', v'⟩ := q
    simp only [YS] at e
    split at e
    · rename_i k1 r1 e1 e2
      cases e
      obtain ⟨us, h1, h2⟩ := ih e2
      have hk := kl (show relW K Γ k k' from a.1) e1
      exact ⟨(k1, v') :: us, by rw [h1, hk]; rfl, .cons ⟨rfl, a.2⟩ h2⟩
    · cases e
noncomputable def zar (Ts : List (TEW × TEW)) : TEW := fun ρ O R => ∀ p, O p = none → Zu Ts ρ (updO O p (.dK [])) fun ps O2 => O2 p = some (.dK []) ∧ ∃ kvs, YS ps = some kvs ∧ kvs.length ≤ 15 ∧ R (.own p) (updO O2 p (.dK (ub [] kvs)))
theorem Kl {ts : List (TE × TE)} {Ts : List (TEW × TEW)} (h : RefPs K ts Ts) : RefE K (zab ts) (zar Ts) := by
  intro Γ O H ρ σ S r Q R hT k p hp
  have S1 := S.newO hp (o := .dK []) (oo := .dK []) (by intro _ h; cases h) ⟨[], zX, .nil⟩
  refine Jc h _ _ _ _ _ S1 r _ _ (hT p (S.free hp).2.1) fun Γ2 O2 H2 ws vs l2 S2 rs h2 => ?_
  obtain ⟨ho, kvs, ek, hl, h2⟩ := h2
  obtain ⟨us, h3, h4⟩ := Jd rs ek
  obtain ⟨_, vs0, q1, q2⟩ := S2.o _ _ ho
  cases q2
  refine ⟨q1, us, h3, by rw [← Paired.length h4]; exact hl, ?_⟩
  exact k _ _ _ _ _ l2 (S2.put (oo := .dK _) ho (by intro _ h; cases h) (by intro _ h; cases h) ⟨_, zX, qj h4 .nil⟩) xW h2
noncomputable def tyW (T : String) (O : OM) (w : W) : Prop := (T = "list" ∧ (yS O w).isSome = true) ∨ (T = "str" ∧ ∃ z, w = .d (.str z)) ∨ (T = "dict" ∧ ∃ a kvs, w = .own a ∧ O a = some (.dK kvs))
theorem zdJ {Γ : Gh} {O : OM} {H : Hp} {T : String} {w : W} {v : V} (S : Sim K Γ O H) (r : relW K Γ w v) (h : tyW T O w) : tyV K T v H := by
  rcases h with ⟨rfl, h⟩ | ⟨rfl, z, rfl⟩ | ⟨rfl, a, kvs, rfl, h⟩
  · obtain ⟨ws, e⟩ := Option.isSome_iff_exists.mp h
    obtain ⟨a, vs, rfl, q1, _⟩ := xM S r e
    exact .inl ⟨rfl, vs, q1⟩
  · rw [show v = .str z from r]; rfl
  · cases (show v = .ref a from r)
    obtain ⟨_, vs, q1, _⟩ := S.o _ _ h
    exact .inr (.inr (.inl ⟨rfl, .inl ⟨vs, q1⟩⟩))
noncomputable def wBM (T : String) (rw : W → List W → OM → WK → Prop) (To : TEW) (Ta : TAW) : TEW := fun ρ O R => To ρ O fun x O1 => tyW T O1 x ∧ Ta ρ O1 fun xs O2 => rw x xs O2 R
theorem zcR {T : String} {r : V → List V → Hp → VK → Prop} {rw : W → List W → OM → WK → Prop} {to : TE} {To : TEW} {t : TA} {Ta : TAW} (hr : RefM K T r rw) (ho : RefE K to To) (ha : xN K t Ta) : RefE K (tBM K T r to t) (wBM T rw To Ta) := by
  intro Γ O H ρ σ S r0 Q R hT k
  refine ho _ _ _ _ _ S r0 _ _ hT fun Γ1 O1 H1 x v l1 S1 rx h1 => ?_
  refine ⟨zdJ S1 rx h1.1, ha _ _ _ _ _ S1 (r0.mono l1) _ _ h1.2 fun Γ2 O2 H2 ws vs l2 S2 rs h2 => ?_⟩
  exact hr _ _ _ _ _ _ _ S2 (rx.mono l2) rs _ _ h2 fun Γ3 O3 H3 w u l3 => k _ _ _ _ _ ((l1.trans l2).trans l3)
noncomputable def ql (O : OM) (o w : W) : Option OM := match o with
  | .own a => match O a with
    | some (.lst ws) => if ws.length < 1000 then some (updO O a (.lst (ws ++ [w]))) else none
    | some (.grid rows) => match w with
      | .own b => match O b with
        | some (.lst us) => if rows.length < 1000 then (yP us).map fun ds => updO (del O b) a (.grid (rows ++ [ds])) else none
        | _ => none
      | _ => none
    | _ => none
  | _ => none
noncomputable def V6 : W → List W → OM → WK → Prop := fun x ws O R => ∃ w O1, ws = [w] ∧ ql O x w = some O1 ∧ R (.d .none) O1
theorem Km {T : String} : RefM K T VX V6 := by
  rintro Γ O H x v xs vs S rx rs Q R ⟨w, O1, rfl, e, h⟩ k
  cases rs with
  | cons rw t =>
    cases t
    rename_i u
    cases x with
    | d _ => cases e
    | row _ _ => cases e
    | own a =>
      cases (show v = .ref a from rx)
      simp only [ql] at e
      split at e
      · rename_i ws ho
        split at e
        · rename_i hl
          cases e
          obtain ⟨_, us, q1, q2⟩ := S.o _ _ ho
          refine ⟨a, us, u, rfl, rfl, q1, by rw [← Paired.length q2]; exact x5 (by omega), ?_⟩
          exact k _ _ _ _ _ (Le.refl _) (S.put (oo := .lst _) ho (by intro _ h; cases h) (by intro _ h; cases h) ⟨_, zX, Paired.appP q2 (.cons rw .nil)⟩) qH h
        · cases e
      · rename_i rows ho
        split at e
        · rename_i b
          cases (show u = .ref b from rw)
          split at e
          · rename_i us hb
            split at e
            · rename_i hl
              cases hd : yP us with
              | none => rw [hd] at e; cases e
              | some ds =>
                rw [hd] at e
                cases e
                rw [vf hd] at hb
                obtain ⟨_, rs, hg, _⟩ := S.o _ _ ho
                obtain ⟨q1, q2, Γ', l', S'⟩ := S.absorb ho hg hb
                refine ⟨a, _, .ref b, rfl, rfl, q1, by rw [List.length_map, q2]; exact x5 (by omega), ?_⟩
                exact k _ _ _ _ _ l' S' qH h
            · cases e
          · cases e
        · cases e
      · cases e
noncomputable def V7 : W → List W → OM → WK → Prop := fun x ws O R => ∃ a b kvs more, x = .own a ∧ ws = [.own b] ∧ O a = some (.dK kvs) ∧ O b = some (.dK more) ∧ a ≠ b ∧ kvs.length + more.length ≤ 1000 ∧ R (.d .none) (updO O a (.dK (ub kvs more)))
theorem Kn {T : String} : RefM K T V2 V7 := by
  rintro Γ O H x v xs vs S rx rs Q R ⟨a, b, kvs, more, rfl, rfl, ho, hb, hne, hl, h⟩ k
  cases rs with
  | cons rw t =>
    cases t
    cases (show v = .ref a from rx)
    obtain ⟨_, vs, q1, q2⟩ := S.o _ _ ho
    obtain ⟨_, us, p1, p2⟩ := S.o _ _ hb
    refine ⟨a, b, vs, us, rfl, by rw [show _ = V.ref b from rw], q1, p1, hne, by rw [← Paired.length q2, ← Paired.length p2]; exact hl, ?_⟩
    exact k _ _ _ _ _ (Le.refl _) (S.put (oo := .dK _) ho (by intro _ h; cases h) (by intro _ h; cases h) ⟨_, zX, qj p2 q2⟩) qH h
end
end L2
namespace L2
open PySem PySem.Spec PyProof.Rows
section
variable {K : PySem.W.Frag}
noncomputable def zas (t : TA) : TE := Z1 t
theorem Z6 {X : Cx} {es : List Expr} {t : TA} {pos : Pos} (h : QA X es t) : PE X (.List es pos) (zas t) := Xb h.pa
noncomputable def zat (T : TAW) : TEW := fun ρ O R => T ρ O fun ws O1 => ws.length ≤ 1000 ∧ ∀ p, O1 p = none → R (.own p) (updO O1 p (.lst ws))
theorem Ko {t : TA} {T : TAW} (h : xN K t T) : RefE K (zas t) (zat T) := by
  intro Γ O H ρ σ S r0 Q R hT k
  refine h Γ O H ρ σ S r0 _ _ hT fun Γ1 O1 H1 ws vs l1 S1 rs h1 => ?_
  refine ⟨by rw [← Paired.length rs]; exact uy h1.1, fun p hp => ?_⟩
  obtain ⟨hO, S'⟩ := zbg S1 rs hp
  exact k _ _ _ _ _ l1 S' xW (h1.2 p hO)
noncomputable def zau : TE := Z1 jz
theorem V8 {X : Cx} {pos : Pos} : PE X (.List [] pos) zau := Xb qn.pa
noncomputable def zav : TEW := fun ρ O R => ∀ p, O p = none → R (.own p) (updO O p (.grid []))
theorem Kp : RefE K zau zav := by
  intro Γ O H ρ σ S r0 Q R hT k
  refine ⟨Nat.zero_le _, fun p hp => ?_⟩
  obtain ⟨Γ', l', S'⟩ := S.newGrid hp
  exact k _ _ _ _ _ l' S' xW (hT p (S.free hp).2.1)
theorem zei : RefC K (rLo K) Xr := zbj
noncomputable def zcS (i j : Nat) (T : TAW) : TSW := fun D ρ O => T ρ O fun ws O1 => ∃ x y, ws = [x, y] ∧ D.nx ((ρ.set i (some x)).set j (some y)) O1
theorem Zv {Γ : Gh} {w : W} {v : V} (h : relW K Γ w v) : qW K Γ (some w) (some v) := h
theorem zbq {i j : Nat} {t : TA} {T : TAW} (h : xN K t T) : RefS K (zb4 i j t) (zcS i j T) := by
  intro Γ O H ρ σ D DW S r hT e
  refine h _ _ _ _ _ S r _ _ hT fun Γ1 O1 H1 ws vs l1 S1 rs h1 => ?_
  obtain ⟨x, y, rfl, h1⟩ := h1
  cases rs with
  | cons rx t => cases t with
    | cons ry t =>
      cases t
      exact ⟨_, _, rfl, e.nx _ _ _ _ _ l1 S1 (Paired.setP (Paired.setP (r.mono l1) (Zv rx)) (Zv ry)) h1⟩
noncomputable def wCs (vs : List V) : TAW := fun _ O R => R (vs.map ofV) O
theorem zcT {vs : List V} (h : vs.all scV = true := by rfl) : xN K (tCs vs) (wCs vs) := fun Γ O H ρ σ S r Q R hT k => k _ _ _ _ _ (Le.refl _) S (kP h) hT
noncomputable def tyD : PyData → Option String
  | .none => some "NoneType"
  | .bool _ => some "bool"
  | .int _ => some "int"
  | .str _ => some "str"
  | _ => none
noncomputable def isI : String → String → Option Bool
  | "int", "int" => some true
  | "int", "bool" => some false
  | "int", "str" => some false
  | "bool", "int" => some true
  | "bool", "bool" => some true
  | "bool", "str" => some false
  | "str", "int" => some false
  | "str", "bool" => some false
  | "str", "str" => some true
  | "NoneType", "int" => some false
  | "NoneType", "bool" => some false
  | "NoneType", "str" => some false
  | _, _ => none
theorem zbr {a b : String} {c : Bool} (h : isI a b = some c) : PySem.W.kitOne K (.type a) (.type b) = some c := by
  unfold isI at h
  split at h <;> first | (cases h; rfl) | cases h
noncomputable def zcU (K : PySem.W.Frag) : List V → Hp → VK → Prop := fun xs H Q => ∃ x n t b, xs = [x, .ty n] ∧ TyOf K H x t ∧ PySem.W.kitOne K t (.type n) = some b ∧ Q (.bl b) H
theorem jI {X : Cx} (h : X.K = K) : xo X (.builtin "isinstance") (zcU K) := by subst h; exact Vs
noncomputable def Kq (n : String) (Ta : TEW) : TEW := fun ρ O R => Ta ρ O fun x O1 => ∃ d s b, x = .d d ∧ tyD d = some s ∧ isI s n = some b ∧ R (.d (.bool b)) O1
theorem zbs {n : String} {ta : TE} {Ta : TEW} (h : RefE K ta Ta) : RefE K (tCB (zcU K) (kd ta (kd (tC (.ty n)) jz))) (Kq n Ta) := by
  intro Γ O H ρ σ S r Q R hT k
  refine h _ _ _ _ _ S r _ _ hT fun Γ1 O1 H1 x v l1 S1 rx h1 => ?_
  obtain ⟨d, s, b, rfl, e1, e2, h1⟩ := h1
  have ty : TyOf K H1 v (.type s) := by
    cases d <;> simp [tyD] at e1
    · subst e1; rw [show v = _ from rx]; exact .non
    · subst e1; rw [show v = _ from rx]; exact .bl _
    · subst e1; rw [show v = _ from rx]; exact .int _
    · subst e1; rw [show v = _ from rx]; exact .str _
  exact ⟨v, n, _, b, rfl, ty, zbr e2, k _ _ _ _ _ l1 S1 vn h1⟩
noncomputable def zcV : R2W := fun x y O R => ∃ ws us ds es, yS O x = some ws ∧ yS O y = some us ∧ yP ws = some ds ∧ yP us = some es ∧ ds.length + es.length ≤ 1000 ∧ R (.d (.list (ds ++ es))) O
theorem uJ {Z : Hp} : ∀ {ds es : List PyData} {vs us : List V}, Reps K Z ds vs → Reps K Z es us → Reps K Z (ds ++ es) (vs ++ us)
  | [], _, _, _, h, g => by rw [show _ = [] from h]; exact g
  | d :: ds, _, _, _, h, g => by
    obtain ⟨x, r, rfl, h1, h2⟩ := h
    exact ⟨x, _, rfl, h1, uJ h2 g⟩
theorem zdK : RefR K (zcn K) zcV := by
  rintro Γ O H x y v u S rx ry Q R ⟨ws, us, ds, es, e1, e2, e3, e4, hl, h⟩ k
  obtain ⟨a, vs, rfl, q1, q2⟩ := xM S rx e1
  obtain ⟨b, zs, rfl, p1, p2⟩ := xM S ry e2
  rw [vf e3] at q2
  rw [vf e4] at p2
  have q3 := yG q2
  have p3 := yG p2
  refine ⟨a, b, vs, zs, rfl, rfl, q1, p1, by rw [← Reps.length q3, ← Reps.length p3]; exact uy hl, fun p hp => ?_⟩
  obtain ⟨Γ', l', S', r'⟩ := qI S (uJ q3 p3) hp
  exact k _ _ _ _ _ l' S' r' h
noncomputable def wIn (neg : Bool) : R2W := fun x y O R => ∃ d ds, x = .d d ∧ qi O y = some ds ∧ scD d = true ∧ ds.all scD = true ∧ R (.d (.bool (if neg then !inV (vOf d) (ds.map vOf) else inV (vOf d) (ds.map vOf)))) O
theorem V9 {Z : Hp} : ∀ {ds : List PyData} {vs : List V}, Reps K Z ds vs → ds.all scD = true → vs = ds.map vOf
  | [], _, h, _ => h
  | d :: ds, _, h, a => by
    obtain ⟨x, r, rfl, h1, h2⟩ := h
    simp at a
    rw [qG h1 a.1, V9 h2 (by simpa using a.2)]
    rfl
theorem Ua {d : PyData} (h : scD d = true) : uo (vOf d) = true := by cases d <;> first | rfl | simp [scD] at h
noncomputable def zcW (K : PySem.W.Frag) (neg : Bool) : R2 := rIn K neg
theorem zdL {X : Cx} (h : X.K = K) : OpR X (compareOp .In) (zcW K false) := by subst h; exact QQ
theorem zej {neg : Bool} : RefR K (zcW K neg) (wIn neg) := by
  rintro Γ O H x y v u S rx ry Q R ⟨d, ds, rfl, e, h1, h2, h⟩ k
  obtain ⟨a, vs, rfl, q1, q2⟩ := V5 S ry e
  have hv := qG rx h1
  have hvs := V9 q2 h2
  subst hv hvs
  refine ⟨a, _, rfl, q1, Ua h1, ?_, k _ _ _ _ _ (Le.refl _) S vn h⟩
  rw [List.all_map]
  simp only [List.all_eq_true] at h2 ⊢
  exact fun z hz => Ua (h2 z hz)
noncomputable def zaw : R2W := fun x y O R => ∃ i j, x = .d (.str i) ∧ y = .d (.str j) ∧ i.length + j.length ≤ sizeLine ∧ R (.d (.str (i ++ j))) O
theorem zcX : RefR K (fun x y H Q => ∃ i j, x = .str i ∧ y = .str j ∧ i.length + j.length ≤ sizeLine ∧ Q (.str (i ++ j)) H) zaw := by
  rintro Γ O H x y v u S rx ry Q R ⟨i, j, rfl, rfl, hl, h⟩ k
  exact ⟨i, j, rx, ry, hl, k _ _ _ _ _ (Le.refl _) S V3 h⟩
end
end L2
namespace L2
open PySem PySem.Spec PyProof.Rows
section
variable {K : PySem.W.Frag}
theorem Sim.unframeO {Γ : Gh} {O : OM} {H : Hp} (S : Sim K Γ O H) {a : Addr} {ds : List PyData} {vs : List V} {F : Hp} (hF : Γ.F = upd F a (.lst vs)) (h0 : F a = none) (hr : Reps K Γ.Z ds vs) :
    O a = none ∧ Sim K ⟨Γ.Z, Γ.G, F⟩ (updO O a (.lst (ds.map .d))) H := by
  have hFa : Γ.F a = some (.lst vs) := by rw [hF, zX]
  obtain ⟨hz, hO, hrow⟩ := S.fd _ _ hFa
  have kF : ∀ b o, F b = some o → b ≠ a ∧ Γ.F b = some o := fun b o e => by
    have hb : b ≠ a := fun z => by rw [z, h0] at e; cases e
    exact ⟨hb, by rw [hF, zm hb]; exact e⟩
  have k1 : ∀ {x : Addr} {rx : List (List PyData)}, updO O a (.lst (ds.map .d)) x = some (.grid rx) → O x = some (.grid rx) := fun {x rx} h => by
    by_cases hx : x = a
    · subst hx; rw [zn] at h; cases h
    · rw [zi hx] at h; exact h
  refine ⟨hO, ⟨S.z, fun b oo e => ?_, S.gd, fun b u e => S.f _ _ (kF b u e).2, fun b oo e hn => ?_, fun b o e => S.fg b o (kF b o e).2, fun b o e => ⟨(S.fd b o (kF b o e).2).1, by rw [zi (kF b o e).1]; exact (S.fd b o (kF b o e).2).2.1, fun c rows rs e1 => (S.fd b o (kF b o e).2).2.2 c rows rs (k1 e1)⟩, fun x y ra rb rs ss r e1 e2 => S.u x y ra rb rs ss r (k1 e1) (k1 e2)⟩⟩
  · by_cases hb : b = a
    · subst hb
      rw [zn] at e
      cases e
      exact ⟨hz, vs, S.f _ _ hFa, xt hr⟩
    · rw [zi hb] at e
      obtain ⟨q1, q2⟩ := S.o _ _ e
      refine ⟨q1, (q2.keep (Le.refl _) rfl rfl fun rs r hg ⟨rows, hrw⟩ hm => ⟨rfl, rfl, ?_⟩).setF⟩
      subst hrw
      exact zi (fun z => hrow b rows rs e hg (by rw [← z]; exact hm))
  · by_cases hb : b = a
    · rw [hb]; exact S.fg _ _ hFa
    · rw [zi hb] at e; exact S.gn b oo e hn
noncomputable def zcY (wi : TI) (n : Nat) (js : List Nat) (g : TG) (tt : TT) (te : TE) : TE := tLc wi n js g tt te
noncomputable def zcZ (wi : TI) (n : Nat) (js : List Nat) (g : TG) (tt : TT) (te : TE) : TE := tLc wi n js g tt te
section
variable {X : Cx} {N : List Str} {n : Nat} {js : List Nat} {scope : Scope} {cl : List (Str × Addr)} {elt tg iter : Expr} {ifs : List Expr} {pos : Pos} {wi : TI} {g : TG} {tt : TT} {te : TE}
theorem zc0 (L : LcOk X N n js scope cl) (hc : X.calm = true) (hi : PI X tg iter wi)
    (hg : ∀ C s0 H0 fp0, PG (xv X N scope cl C s0 H0 fp0) tg g) (ht : ∀ C s0 H0 fp0, PTs (xv X N scope cl C s0 H0 fp0) ifs tt) (he : ∀ C s0 H0 fp0, PE (xv X N scope cl C s0 H0 fp0) elt te)
    (hs : ∀ x, foldedSetIterable iter X.env x = pure x := by intro _; rfl) : PE X (.ListComp elt [⟨tg, iter, ifs, 0⟩] scope pos) (zcY wi n js g tt te) := u6 L hc hi hg ht he hs
theorem zc1 (L : LcOk X N n js scope cl) (hc : X.calm = true) (hi : PI X tg iter wi)
    (hg : ∀ C s0 H0 fp0, PG (xv X N scope cl C s0 H0 fp0) tg g) (ht : ∀ C s0 H0 fp0, PTs (xv X N scope cl C s0 H0 fp0) ifs tt) (he : ∀ C s0 H0 fp0, PE (xv X N scope cl C s0 H0 fp0) elt te)
    (hs : ∀ x, foldedSetIterable iter X.env x = pure x := by intro _; rfl) : PE X (.ListComp elt [⟨tg, iter, ifs, 0⟩] scope pos) (zcZ wi n js g tt te) := u6 L hc hi hg ht he hs
end
noncomputable def zc2 (Wi : TIW) (n : Nat) (js : List Nat) (G : TGW) (T : TTW) (E : TEW) : TEW := fun ρ O R => Wi ρ O fun ws keep O1 => keep O1 ∧ ws.length ≤ 1000 ∧ ∃ F : W → Option PyData,
  (∀ w ∈ ws, ∀ us : WS, us.length = n → YR G T E n (xw js ρ) w (us ++ xw js ρ) O1 fun y O2 => O2 = O1 ∧ y = (F w).map .d) ∧ ∀ p, O1 p = none → R (.own p) (updO O1 p (.lst ((ws.filterMap F).map .d)))
theorem zbt {wi : TI} {Wi : TIW} {n : Nat} {js : List Nat} {g : TG} {G : TGW} {tt : TT} {T : TTW} {te : TE} {E : TEW} (hi : qY K wi Wi) (hg : RefG K g G) (ht : xZ K tt T) (he : RefE K te E) : RefE K (zcY wi n js g tt te) (zc2 Wi n js G T E) := by
  intro Γ O H ρ σ S r Q R hT k
  refine hi _ _ _ _ _ S r _ _ hT fun Γ1 O1 H1 J ws keep l1 S1 ok h1 => ?_
  obtain ⟨hk, hlen, F, hF, hR⟩ := h1
  intro D hD
  have hFD : Γ1.F D = none := S1.f.free hD
  have hOD := (S1.free hD).2.1
  have r1 := jF (r.mono l1) n js
  refine ⟨fun i m σ' H' => i ≤ ws.length ∧ m = ws.length - i ∧ ∃ Γ' ρ' vs, Same Γ1.Z Γ'.Z ∧ (∀ a rs, Γ1.G a = some rs → ∃ more, Γ'.G a = some (rs ++ more)) ∧ Γ'.F = upd Γ1.F D (.lst vs) ∧ Sim K Γ' O1 H' ∧ relR K Γ' ρ' σ' ∧
    ρ'.length = n + (xw js ρ).length ∧ ρ'.drop n = xw js ρ ∧ Reps K Γ'.Z ((ws.take i).filterMap F) vs, ⟨_, Nat.zero_le _, rfl, _, _, [], Same.refl _, fun a rs h => ⟨[], by rw [List.append_nil]; exact h⟩, rfl, S1.frameNew hD (.lst []), r1.setF, by simp, by simp, rfl⟩, ?_⟩
  rintro i m σ' H' ⟨hi, rfl, Γ', ρ', vs, z', g', f', S', r', n1, n2, rp⟩
  obtain ⟨ok1, ok2⟩ := ok i Γ' O1 H' z' g' S' hk
  have hvl : vs.length ≤ i := by
    rw [← Reps.length rp]
    exact Nat.le_trans (List.length_filterMap_le _ _) (by rw [List.length_take]; omega)
  by_cases hlt : i < ws.length
  · obtain ⟨go, y⟩ := ok1 _ (List.getElem?_eq_getElem hlt)
    refine .inr ⟨go, fun σ2 H2 => ∃ Γ2 ρ2 vs2, Same Γ1.Z Γ2.Z ∧ (∀ a rs, Γ1.G a = some rs → ∃ more, Γ2.G a = some (rs ++ more)) ∧ Γ2.F = upd Γ1.F D (.lst vs2) ∧ Sim K Γ2 O1 H2 ∧ relR K Γ2 ρ2 σ2 ∧
      ρ2.length = n + (xw js ρ).length ∧ ρ2.drop n = xw js ρ ∧ Reps K Γ2.Z ((ws.take (i + 1)).filterMap F) vs2, fun σ2 H2 h => ⟨ws.length - (i + 1), by omega, hlt, rfl, h⟩, fun x H2 hy => ?_⟩
    obtain ⟨Γ2, l2, S2, rx⟩ := y x H2 hy
    obtain ⟨us, hus, rfl⟩ := kQ n1 n2
    have et : ws.take (i + 1) = ws.take i ++ [ws[i]] := (List.take_append_getElem hlt).symm
    refine hg _ _ _ _ _ _ _ S2 (r'.mono l2) rx _ _ (hF _ (List.getElem_mem hlt) us hus) fun Γ3 O3 H3 ρ3 σ3 l3 S3 r3 h3 => ?_
    obtain ⟨⟨m1, m2⟩, h3⟩ := h3
    refine ht _ _ _ _ _ S3 r3 _ _ h3 fun Γ4 O4 H4 b l4 S4 h4 => ?_
    have l24 := (l2.trans l3).trans l4
    have up : ∀ Γ5, Le Γ' Γ5 → Same Γ1.Z Γ5.Z ∧ (∀ a rs, Γ1.G a = some rs → ∃ more, Γ5.G a = some (rs ++ more)) := fun Γ5 l => ⟨z'.trans l.z, fun a rs h => by
      obtain ⟨m, e⟩ := g' a rs h
      obtain ⟨m2, e2⟩ := l.g a _ e
      exact ⟨m ++ m2, by rw [← List.append_assoc]; exact e2⟩⟩
    cases b with
    | true =>
      rw [if_pos rfl] at h4 ⊢
      refine he _ _ _ _ _ S4 (r3.mono l4) _ _ h4 fun Γ5 O5 H5 w5 v5 l5 S5 r5 h5 => ?_
      obtain ⟨rfl, h5⟩ := h5
      have l25 := l24.trans l5
      cases hFw : F ws[i] with
      | none => rw [hFw] at h5; cases h5
      | some d =>
        rw [hFw] at h5
        cases h5
        have f5 : Γ5.F = upd Γ1.F D (.lst vs) := by rw [l25.f, f']
        have fD : Γ5.F D = some (.lst vs) := by rw [f5, zX]
        refine ⟨vs, S5.f _ _ fD, x5 (by omega), ?_⟩
        obtain ⟨u1, u2⟩ := up Γ5 l25
        refine ⟨⟨Γ5.Z, Γ5.G, upd Γ5.F D (.lst (vs ++ [v5]))⟩, ρ3, vs ++ [v5], u1, u2, ?_, S5.framePut fD _, ((r3.mono l4).mono l5).setF, m1, m2, ?_⟩
        · show upd Γ5.F D _ = _
          rw [f5, VR]
        · rw [et, List.filterMap_append]
          have : ([ws[i]] : List W).filterMap F = [d] := by simp [hFw]
          rw [this]
          exact Reps.snoc (Reps.same l25.z _ _ rp) r5
    | false =>
      rw [if_neg (by decide)] at h4 ⊢
      obtain ⟨rfl, h4⟩ := h4
      obtain ⟨u1, u2⟩ := up Γ4 l24
      refine ⟨Γ4, ρ3, vs, u1, u2, by rw [l24.f, f'], S4, r3.mono l4, m1, m2, ?_⟩
      cases hFw : F ws[i] with
      | some d => rw [hFw] at h4; cases h4
      | none =>
        rw [et, List.filterMap_append]
        have : ([ws[i]] : List W).filterMap F = [] := by simp [hFw]
        rw [this, List.append_nil]
        exact Reps.same l24.z _ _ rp
  · have hi2 : i = ws.length := by omega
    subst hi2
    refine .inl ⟨ok2 rfl, ?_⟩
    rw [List.take_length] at rp
    obtain ⟨q1, q2⟩ := S'.unframeO f' hFD rp
    exact k ⟨Γ'.Z, Γ'.G, Γ1.F⟩ _ _ _ _ (l1.trans ⟨rfl, z', g'⟩) q2 xW (hR D hOD)
noncomputable def zc3 (Wi : TIW) (n : Nat) (js : List Nat) (G : TGW) (T : TTW) (E : TEW) : TEW := fun ρ O R => Wi ρ O fun ws keep O1 => keep O1 ∧ ws.length ≤ 1000 ∧ ∃ F : W → List PyData,
  (∀ w ∈ ws, ∀ us : WS, us.length = n → YR G T E n (xw js ρ) w (us ++ xw js ρ) O1 fun y O2 => ∃ b, O1 b = none ∧ y = some (.own b) ∧ O2 = updO O1 b (.lst ((F w).map .d))) ∧ ∀ p, O1 p = none → R (.own p) (updO O1 p (.grid (ws.map F)))
theorem zbu {wi : TI} {Wi : TIW} {n : Nat} {js : List Nat} {g : TG} {G : TGW} {tt : TT} {T : TTW} {te : TE} {E : TEW} (hi : qY K wi Wi) (hg : RefG K g G) (ht : xZ K tt T) (he : RefE K te E) : RefE K (zcZ wi n js g tt te) (zc3 Wi n js G T E) := by
  intro Γ O H ρ σ S r Q R hT k
  refine hi _ _ _ _ _ S r _ _ hT fun Γ1 O1 H1 J ws keep l1 S1 ok h1 => ?_
  obtain ⟨hk, hlen, F, hF, hR⟩ := h1
  intro D hD
  have hFD : Γ1.F D = none := S1.f.free hD
  have hOD := (S1.free hD).2.1
  have r1 := jF (r.mono l1) n js
  refine ⟨fun i m σ' H' => i ≤ ws.length ∧ m = ws.length - i ∧ ∃ Γ' ρ', ∃ rs : List Addr, Same Γ1.Z Γ'.Z ∧ (∀ a rs, Γ1.G a = some rs → ∃ more, Γ'.G a = some (rs ++ more)) ∧ Sim K Γ' O1 H' ∧ relR K Γ' ρ' σ' ∧
    (ρ'.length = n + (xw js ρ).length ∧ ρ'.drop n = xw js ρ) ∧ Γ'.F D = some (.lst (rs.map V.ref)) ∧ rs.Nodup ∧ D ∉ rs ∧ rs.length = i ∧
    (∀ (j : Nat) (q : Addr), rs[j]? = some q → Γ1.F q = none ∧ ∃ vs w, Γ'.F q = some (.lst vs) ∧ ws[j]? = some w ∧ Reps K Γ'.Z (F w) vs) ∧ ∀ x, x ≠ D → x ∉ rs → Γ'.F x = Γ1.F x,
    ⟨_, Nat.zero_le _, rfl, ⟨Γ1.Z, Γ1.G, upd Γ1.F D (.lst [])⟩, _, [], Same.refl _, fun a rs h => ⟨[], by rw [List.append_nil]; exact h⟩, S1.frameNew hD (.lst []), r1.setF, ⟨by simp, by simp⟩, zX, .nil, by simp, rfl, by simp, fun x hx _ => zm hx⟩, ?_⟩
  rintro i m σ' H' ⟨hi, rfl, Γ', ρ', rs, z', g', S', r', ⟨n1, n2⟩, fD, nd, nD, hl, hrow, hrest⟩
  obtain ⟨ok1, ok2⟩ := ok i Γ' O1 H' z' g' S' hk
  by_cases hlt : i < ws.length
  · obtain ⟨go, y⟩ := ok1 _ (List.getElem?_eq_getElem hlt)
    refine .inr ⟨go, fun σ' H' => ∃ Γ' ρ', ∃ rs : List Addr, Same Γ1.Z Γ'.Z ∧ (∀ a rs, Γ1.G a = some rs → ∃ more, Γ'.G a = some (rs ++ more)) ∧ Sim K Γ' O1 H' ∧ relR K Γ' ρ' σ' ∧
      (ρ'.length = n + (xw js ρ).length ∧ ρ'.drop n = xw js ρ) ∧ Γ'.F D = some (.lst (rs.map V.ref)) ∧ rs.Nodup ∧ D ∉ rs ∧ rs.length = i + 1 ∧
      (∀ (j : Nat) (q : Addr), rs[j]? = some q → Γ1.F q = none ∧ ∃ vs w, Γ'.F q = some (.lst vs) ∧ ws[j]? = some w ∧ Reps K Γ'.Z (F w) vs) ∧ ∀ x, x ≠ D → x ∉ rs → Γ'.F x = Γ1.F x, fun σ2 H2 h => ⟨ws.length - (i + 1), by omega, hlt, rfl, h⟩, fun x H2 hy => ?_⟩
    obtain ⟨Γ2, l2, S2, rx⟩ := y x H2 hy
    obtain ⟨us, hus, rfl⟩ := kQ n1 n2
    refine hg _ _ _ _ _ _ _ S2 (r'.mono l2) rx _ _ (hF _ (List.getElem_mem hlt) us hus) fun Γ3 O3 H3 ρ3 σ3 l3 S3 r3 h3 => ?_
    obtain ⟨⟨m1, m2⟩, h3⟩ := h3
    refine ht _ _ _ _ _ S3 r3 _ _ h3 fun Γ4 O4 H4 b l4 S4 h4 => ?_
    have l24 := (l2.trans l3).trans l4
    cases b with
    | false =>
      rw [if_neg (by decide)] at h4
      obtain ⟨_, _, h, _⟩ := h4
      cases h
    | true =>
      rw [if_pos rfl] at h4 ⊢
      refine he _ _ _ _ _ S4 (r3.mono l4) _ _ h4 fun Γ5 O5 H5 w5 v5 l5 S5 r5 h5 => ?_
      obtain ⟨b, hb0, hw, rfl⟩ := h5
      cases hw
      cases (show v5 = .ref b from r5)
      have l25 := l24.trans l5
      have f5 : Γ5.F = Γ'.F := l25.f
      have hOb : updO O1 b (.lst ((F ws[i]).map .d)) b = some (.lst ((F ws[i]).map .d)) := zn
      have Fb : Γ5.F b = none := by
        cases e : Γ5.F b with
        | none => rfl
        | some o => have := (S5.fd _ _ e).2.1; rw [hOb] at this; cases this
      have bD : b ≠ D := fun e => by rw [e, f5, fD] at Fb; cases Fb
      have brs : b ∉ rs := fun m => by
        obtain ⟨j, hj, e⟩ := List.mem_iff_getElem.mp m
        obtain ⟨_, vs, w, q, _⟩ := hrow j b (by rw [List.getElem?_eq_getElem hj, e])
        rw [f5, q] at Fb; cases Fb
      have F1b : Γ1.F b = none := by rw [← hrest b bD brs, ← f5]; exact Fb
      obtain ⟨vb, hb1, hb2, S6⟩ := S5.frameOwn hOb
      have hdel : del (updO O1 b (.lst ((F ws[i]).map .d))) b = O1 := by
        funext c
        by_cases hc : c = b
        · rw [hc, xH, hb0]
        · rw [x8 hc, zi hc]
      rw [hdel] at S6
      have F6D : (⟨Γ5.Z, Γ5.G, upd Γ5.F b (.lst vb)⟩ : Gh).F D = some (.lst (rs.map V.ref)) := by
        show upd Γ5.F b _ D = _
        rw [zm (Ne.symm bD), f5]; exact fD
      have S7 := S6.framePut F6D (.lst (rs.map V.ref ++ [.ref b]))
      refine ⟨rs.map V.ref, S6.f _ _ F6D, x5 (by rw [List.length_map]; omega), ?_⟩
      refine ⟨⟨Γ5.Z, Γ5.G, upd (upd Γ5.F b (.lst vb)) D (.lst (rs.map V.ref ++ [.ref b]))⟩, ρ3, rs ++ [b], z'.trans l25.z, fun a ss h => ?_, S7, (((r3.mono l4).mono l5).setF).setF, ⟨m1, m2⟩, ?_, ?_, ?_, by simp [hl], fun j q e => ?_, fun x hx hxr => ?_⟩
      · obtain ⟨m, e⟩ := g' a ss h
        obtain ⟨m2, e2⟩ := l25.g a _ e
        exact ⟨m ++ m2, by rw [← List.append_assoc]; exact e2⟩
      · rw [List.map_append]; exact zX
      · rw [List.nodup_append]
        exact ⟨nd, by simp, fun u hu v hv => by simp at hv; subst hv; exact fun z => brs (by rw [← z]; exact hu)⟩
      · simp [nD]; exact fun e => bD e.symm
      · by_cases hj : j < rs.length
        · rw [List.getElem?_append_left hj] at e
          obtain ⟨q1, vs, w, q2, q3, q4⟩ := hrow j q e
          have hqb : q ≠ b := fun z => brs (by rw [← z]; exact List.mem_of_getElem? e)
          have hqD : q ≠ D := fun z => nD (by rw [← z]; exact List.mem_of_getElem? e)
          refine ⟨q1, vs, w, ?_, q3, Reps.same l25.z _ _ q4⟩
          show upd (upd Γ5.F b _) D _ q = _
          rw [zm hqD, zm hqb, f5]; exact q2
        · have hj2 : j = rs.length := by
            have := (List.getElem?_eq_some_iff.mp e).1
            simp at this; omega
          subst hj2
          rw [List.getElem?_append_right (Nat.le_refl _)] at e
          simp at e
          subst e
          refine ⟨F1b, vb, ws[i], ?_, by rw [hl]; exact List.getElem?_eq_getElem hlt, yG (Γ := Γ5) hb2⟩
          show upd (upd Γ5.F b _) D _ b = _
          rw [zm bD, zX]
      · have hxb : x ≠ b := fun z => hxr (by rw [z]; simp)
        show upd (upd Γ5.F b _) D _ x = _
        rw [zm hx, zm hxb, f5]
        exact hrest x hx fun m => hxr (by simp [m])
  · have hi2 : i = ws.length := by omega
    refine .inl ⟨ok2 hi2, ?_⟩
    obtain ⟨q1, G', q2, q3⟩ := S'.gridify (F := Γ1.F) (rows := ws.map F) hFD fD nd nD (by rw [List.length_map]; omega) (fun j q ds e1 e2 => by
      obtain ⟨y1, vs, w, y2, y3, y4⟩ := hrow j q e1
      rw [List.getElem?_map, y3] at e2
      cases e2
      exact ⟨y1, vs, y2, y4⟩) hrest
    exact k ⟨Γ'.Z, G', Γ1.F⟩ _ _ _ _ (l1.trans ⟨rfl, z', fun a ss h => by obtain ⟨m, e⟩ := g' a ss h; exact ⟨m, q2 _ _ e⟩⟩) q3 xW (hR D hOD)
end
end L2
namespace L2
open PySem PySem.Spec PyProof.Rows
section
variable {X : Cx} {K : PySem.W.Frag}
theorem zl {e : Expr} {ta : TE} {f : Str} {pos : Pos} (hK : X.K = K) (he : PE X e ta) (hb : attributeBase e f X.env (eval e X.env) = eval e X.env) : PE X (.Attribute e f pos) (JI K ta f) := by
  subst hK; exact zca he hb
theorem yB {o value : Expr} {ta tv : TE} {f : Str} {pos pos' : Pos} (hK : X.K = K) (ha : PE X o ta) (hv : PE X value tv) (hs : swapsWith value (some (.Attribute o f pos')) pos.line X.env = pure false) : PS X (.Assign [.Attribute o f pos'] value pos) (JJ K ta tv f) := by
  subst hK; exact zcb ha hv hs
theorem x9 (hK : X.K = K) : IxR X (JN K) := by subst hK; exact zcf
theorem uK {tg l : Expr} {tl : TE} (hK : X.K = K) (hl : PE X l tl) : PI X tg l (Uk K tl) := by subst hK; exact zaL hl
theorem Z7 {tg l : Expr} {tl : TE} (hK : X.K = K) (hl : PE X l tl) : PI X tg l (JC K tl) := by subst hK; exact zb5 hl
theorem zbv {es : List Expr} {k : Nat} {t : TGs} {n : Nat} {pos : Pos} (hK : X.K = K) (hc : X.calm = true) (h : PGs X es t)
    (hn : (assignEach es X.env).length = n := by rfl) (hst : (assignEach es X.env).findIdx? (·.1) = none := by rfl) : PG X (.Tuple es k pos) (JB K n t) := by subst hK; exact zb2 hc h hn hst
section
variable {T : String} {name : Str} {id : String} {r : V → List V → Hp → VK → Prop} {o e : Expr} {es : List Expr} {to : TE} {t : TA} {apos cpos : Pos}
theorem uc (hK : X.K = K) (pa : PlainAttrs T) (slot : Slot T name id) (hty : typeOf (.builtin id) = pure (.type "method_descriptor")) (hm : MtR X id r) (ho : PE X o to) (ha : PA X (e :: es) t)
    (hbase : attributeBase o name X.env (eval o X.env) = eval o X.env := by rfl)
    (hfew : ((backTo cpos (starEach (e :: es) X.env)).all (fun x => !x.1) && (backToKw cpos (keywordEach [] X.env)).all (fun x => x.1.isSome) && decide ((e :: es).length + ([] : List Keyword).length + (if ([] : List Keyword).isEmpty then 0 else 1) < 30)) = true := by rfl)
    (hline : (apos.endLine == cpos.line) = true := by rfl) (hs : starEach (e :: es) X.env = (false, eval e X.env) :: starEach es X.env := by rfl) (hplain : (backTo cpos (starEach es X.env)).any (·.1) = false := by rfl) :
    PE X (.Call (.Attribute o name apos) (e :: es) [] cpos) (tBM K T r to t) := by subst hK; exact zds pa slot hty hm ho ha hbase hfew hline hs hplain
end
noncomputable def zax (K : PySem.W.Frag) : List V → Hp → VK → Prop := fun xs H Q => ∃ p ys, xs = [.ref p] ∧ (SqL K H p ys ∨ SqT K H p ys) ∧ Q (.int ys.length) H
theorem Je (hK : X.K = K) : xo X (.builtin "len") (zax K) := by subst hK; exact Xe
theorem zc4 : RefC K (zax K) Ka := zdH
noncomputable def zay (K : PySem.W.Frag) : List V → Hp → VK → Prop := fun xs H Q => ∃ p ys, xs = [.ref p] ∧ ((SqL K H p ys ∧ ∀ l, H l = none → Q (.ref l) (upd H l (.tup ys))) ∨ (SqT K H p ys ∧ Q (.ref p) H))
theorem zc5 (hK : X.K = K) : xo X (.type "tuple") (zay K) := by subst hK; exact YD
theorem zc6 : RefC K (zay K) Xs := zbk
noncomputable def zaz (K : PySem.W.Frag) (ta : TE) : TT := fun σ H Q => ta σ H fun x H' => ∃ k, Xa K x H' k ∧ Q k H'
theorem Yt {a : Expr} {ta : TE} (hK : X.K = K) (ha : PE X a ta) (he : ∀ whole, isTrue a X.env whole = (do let v ← whole; standAt a.pos; holding [v] (truthy v))) : PT X a (zaz K ta) := by
  subst hK; exact JF ha he
theorem Kr {t : TE} {T : TEW} (h : RefE K t T) : xZ K (zaz K t) (J5 T) := zbe h
theorem zc7 (hK : X.K = K) (hu : X.A.units + 64 < cLine) : OpR X (compareOp .Eq) (JR K) := by subst hK; exact zcl hu
theorem uL (hK : X.K = K) (hu : X.A.units + 64 < cLine) : OpR X (compareOp .NotEq) (JS K) := by subst hK; exact zcm hu
theorem Ub (hK : X.K = K) : OpR X (binaryOp .Add) (UA K) := by subst hK; exact zaT
theorem zbw : xZ K zcj (fun _ O R => R true O) := fun Γ O H ρ σ S r Q R hT k => k _ _ _ _ (Le.refl _) S hT
end
section
variable {K : PySem.W.Frag}
noncomputable def zaA : R2W := fun x y O R => ∃ ds es, xz x = some ds ∧ xz y = some es ∧ ds ≠ [] ∧ ds.length + es.length ≤ 1000 ∧ R (.d (.tuple (ds ++ es))) O
theorem zbx {w : W} {ds : List PyData} (h : xz w = some ds) : w = .d (.tuple ds) := by
  cases w with
  | d x => cases x <;> simp [xz] at h; subst h; rfl
  | own _ => cases h
  | row _ _ => cases h
theorem zc8 : RefR K (UA K) zaA := by
  rintro Γ O H x y v u S rx ry Q R ⟨ds, es, e1, e2, hne, hl, h⟩ k
  obtain ⟨a, vs, rfl, q1, q2⟩ := ve S rx e1
  obtain ⟨b, us, rfl, p1, p2⟩ := ve S ry e2
  have q3 := yG q2
  have p3 := yG p2
  have l1 := Reps.length q3
  have l2 := Reps.length p3
  refine ⟨a, b, vs, us, rfl, rfl, q1, p1, fun z => ?_, by rw [← l1, ← l2]; exact uy hl, ?_⟩
  · rw [z] at l1
    exact hne (List.eq_nil_of_length_eq_zero l1)
  · first
      | exact fun hz p hp => by
          obtain ⟨Γ', l', S', r'⟩ := jE S (uJ q3 p3) hp
          exact k _ _ _ _ _ l' S' r' h
      | exact fun p hp => by
          obtain ⟨Γ', l', S', r'⟩ := jE S (uJ q3 p3) hp
          exact k _ _ _ _ _ l' S' r' h
      | (refine ⟨fun hz => ?_, fun hz p hp => ?_⟩
         · subst hz
           have : es = [] := List.eq_nil_of_length_eq_zero l2
           subst this
           rw [List.append_nil] at h
           rw [zbx e1] at rx
           exact k _ _ _ _ _ (Le.refl _) S rx h
         · obtain ⟨Γ', l', S', r'⟩ := jE S (uJ q3 p3) hp
           exact k _ _ _ _ _ l' S' r' h)
end
end L2
namespace L2
open PySem PySem.Spec PyProof.Rows
section
variable {K : PySem.W.Frag}
noncomputable def wCR (a : Addr) : TEW := fun _ O R => R (.own a) O
theorem zc9 {a : Addr} : RefE K (tC (.ref a)) (wCR a) := fun Γ O H ρ σ S r Q R h k => k _ _ _ _ _ (Le.refl _) S xW h
noncomputable def zaB (K : PySem.W.Frag) (To : TEW) (T : TAW) : TEW := fun ρ O R => To ρ O fun x O1 => ∃ a D, x = .own a ∧ DK K a D ∧ T ρ O1 fun ws O2 => ∃ i d, ws = [.d (.int i), .d (.int d)] ∧ R (.d (.int ((xJ D i).getD d))) O2
theorem Ks {to : TE} {t : TA} {To : TEW} {T : TAW} (ho : RefE K to To) (h : xN K t T) : RefE K (UG K to t) (zaB K To T) := by
  intro Γ O H ρ σ S r Q R hT k
  refine ho _ _ _ _ _ S r _ _ hT fun Γ1 O1 H1 x v l1 S1 rx h1 => ?_
  obtain ⟨a, D, rfl, hd, h1⟩ := h1
  refine ⟨a, D, rx, hd, h _ _ _ _ _ S1 (r.mono l1) _ _ h1 fun Γ2 O2 H2 ws vs l2 S2 rs h2 => ?_⟩
  obtain ⟨i, d, rfl, h2⟩ := h2
  cases rs with
  | cons rx t => cases t with
    | cons ry t =>
      cases t
      exact ⟨i, d, by rw [show _ = V.int i from rx, show _ = V.int d from ry], k _ _ _ _ _ (l1.trans l2) S2 ki h2⟩
theorem Xu {X : Cx} {o e : Expr} {es : List Expr} {to : TE} {t : TA} {apos cpos : Pos} (hK : X.K = K) (ho : PE X o to) (ha : PA X (e :: es) t)
    (hbase : attributeBase o "get" X.env (eval o X.env) = eval o X.env := by rfl)
    (hfew : ((backTo cpos (starEach (e :: es) X.env)).all (fun x => !x.1) && (backToKw cpos (keywordEach [] X.env)).all (fun x => x.1.isSome) && decide ((e :: es).length + ([] : List Keyword).length + (if ([] : List Keyword).isEmpty then 0 else 1) < 30)) = true := by rfl)
    (hline : (apos.endLine == cpos.line) = true := by rfl) (hs : starEach (e :: es) X.env = (false, eval e X.env) :: starEach es X.env := by rfl) (hplain : (backTo cpos (starEach es X.env)).any (·.1) = false := by rfl) :
    PE X (.Call (.Attribute o "get" apos) (e :: es) [] cpos) (UG K to t) := by subst hK; exact za7 ho ha hbase hfew hline hs hplain
theorem Jf {s : SpW} {t : TA} {T : TAW} (h : xN K t T) : RefE K (Ze (zb K s) [] E0 t) (Zs s [] T) := Xq h
theorem Jg {s : SpW} {i : Int} {t : TA} {T : TAW} (h : xN K t T) : RefE K (Ze (zb K s) [.int i] E0 t) (Zs s [.int i] T) := Xq h
theorem yt {T U : TSW} {D : EndsW} {ρ : WS} {O : OM} (J : WS → OM → Prop) (ht : ∀ R : WS → OM → Prop, (∀ ρ' O', J ρ' O' → R ρ' O') → T { D with nx := R } ρ O) (hu : ∀ ρ' O', J ρ' O' → U D ρ' O') : uf T U D ρ O := ht (U D) hu
theorem xA.by {ws : List W} {keep : OM → Prop} {G : TGW} {TB : TSW} {D : EndsW} {ρ : WS} {O : OM} (Pv : Nat → WS → OM → Prop) (h0 : Pv 0 ρ O) (hk : ∀ i ρ O, Pv i ρ O → keep O)
    (hs : ∀ i w ρ O, ws[i]? = some w → Pv i ρ O → ∀ R : WS → OM → Prop, (∀ ρ' O', Pv (i + 1) ρ' O' → R ρ' O') → G w ρ O fun ρ' O' => TB { D with nx := R, ct := R, bk := D.nx } ρ' O') (hd : ∀ ρ O, Pv ws.length ρ O → D.nx ρ O) : xA ws keep G TB D ρ O :=
  ⟨Pv, h0, hk, fun i w ρ O e p => hs i w ρ O e p _ fun _ _ z => z, hd⟩
theorem xA.rng {n : Nat} {f : Nat → Int} {G : TGW} {TB : TSW} {D : EndsW} {ρ : WS} {O : OM} (Pv : Nat → WS → OM → Prop) (h0 : Pv 0 ρ O)
    (hs : ∀ i ρ O, i < n → Pv i ρ O → ∀ R : WS → OM → Prop, (∀ ρ' O', Pv (i + 1) ρ' O' → R ρ' O') → G (.d (.int (f i))) ρ O fun ρ' O' => TB { D with nx := R, ct := R, bk := D.nx } ρ' O') (hd : ∀ ρ O, Pv n ρ O → D.nx ρ O) : xA ((List.range n).map fun i => .d (.int (f i))) (fun _ => True) G TB D ρ O :=
  xA.by Pv h0 (fun _ _ _ _ => trivial) (fun i w ρ O e p R hR => by
    rw [List.getElem?_map] at e
    cases hr : (List.range n)[i]? with
    | none => rw [hr] at e; cases e
    | some j =>
      rw [hr] at e
      cases e
      obtain ⟨hi, hj⟩ := List.getElem?_eq_some_iff.mp hr
      simp at hi hj
      subst hj
      exact hs i ρ O hi p R hR) (fun ρ O p => hd ρ O (by simpa using p))
end
noncomputable abbrev PF := Nat → Nat → Cel
noncomputable def genG (h w : Nat) (f : PF) : List (List PyData) := (List.range h).map fun i => (List.range w).map fun j => yE (f i j)
theorem Xv {h w : Nat} {f : PF} {i : Nat} (hi : i < h) : (genG h w f)[i]? = some ((List.range w).map fun j => yE (f i j)) := by
  unfold genG
  rw [List.getElem?_map, List.getElem?_range hi]
  rfl
theorem xl {h w : Nat} {f : PF} : (genG h w f).length = h := by simp [genG]
theorem UO {h w : Nat} {f g : PF} (e : ∀ i j, i < h → j < w → f i j = g i j) : genG h w f = genG h w g := by
  unfold genG
  refine List.map_congr_left fun i hi => List.map_congr_left fun j hj => ?_
  rw [e i j (by simpa using hi) (by simpa using hj)]
noncomputable def setF (f : PF) (i j : Nat) (c : Cel) : PF := fun a b => if a = i ∧ b = j then c else f a b
theorem Yu {α : Type} {n i : Nat} {f : Nat → α} {x : α} : ((List.range n).map f).set i x = (List.range n).map fun k => if k = i then x else f k := by
  apply List.ext_getElem?
  intro k
  rw [List.getElem?_set]
  by_cases hk : k < n
  · simp [hk]
    by_cases e : i = k
    · subst e; simp [hk]
    · simp [e, Ne.symm e]
  · simp [hk]
    omega
theorem Kt {h w : Nat} {f : PF} {i j : Nat} {c : Cel} (hi : i < h) : (genG h w f).set i (((List.range w).map fun j => yE (f i j)).set j (yE c)) = genG h w (setF f i j c) := by
  unfold genG
  rw [Yu, Yu]
  refine List.map_congr_left fun a ha => ?_
  by_cases e : a = i
  · subst e
    simp only [if_true, setF, true_and]
    refine List.map_congr_left fun b hb => ?_
    by_cases eb : b = j <;> simp [eb]
  · simp [e, setF]
theorem y9 {O : OM} {p : Addr} {rows : List (List PyData)} (h : O p = some (.grid rows)) : yS O (.own p) = some ((List.range rows.length).map (.row p)) := by simp [yS, h]
theorem qZ {O : OM} {p : Addr} {h w i : Nat} {f : PF} (hp : O p = some (.grid (genG h w f))) (hi : i < h) : yS O (.row p i) = some ((List.range w).map fun j => .d (yE (f i j))) := by
  simp [yS, hp, Xv hi]
theorem xa {α : Type} {n : Nat} {f : Nat → α} {i : Int} (h0 : 0 ≤ i) (h1 : i < n) : atI ((List.range n).map f) i = some (f i.toNat) := by
  obtain ⟨k, rfl⟩ := Int.eq_ofNat_of_zero_le h0
  refine ut ?_
  rw [List.getElem?_map, List.getElem?_range (by omega)]
  rfl
theorem xI {O : OM} {p : Addr} {h w i : Nat} {f : PF} {k : Int} {c : Cel} (hp : O p = some (.grid (genG h w f))) (hi : i < h) (h0 : 0 ≤ k) (h1 : k < w) : uI O (.row p i) k (.d (yE c)) = some (updO O p (.grid (genG h w (setF f i k.toNat c)))) := by
  have hx : ixN ((List.range w).map fun j => yE (f i j)).length k = some k.toNat := by
    unfold ixN
    rw [if_pos h0, if_pos (by simp; exact h1)]
  simp only [uI, hp, Xv hi, hx, Option.map_some, Kt hi]
end L2
namespace L2
open PySem PySem.Spec PyProof.Rows
theorem xB {X : Cx} : OpR X (binaryOp .Mult) (rI IntMulOk fun i j => .int (i * j)) := opI fun _ _ _ _ _ _ _ hc q => mul_int q hc
theorem mulL {a b : Int} (h1 : -1000000000000 ≤ a) (h2 : a ≤ 1000000000000) : IntMulOk a b := (zaX h1 h2).ok
theorem mulR {a b : Int} (h1 : -1000000000000 ≤ b) (h2 : b ≤ 1000000000000) : IntMulOk a b := (JT h1 h2).ok
noncomputable def Bt (m : Nat) (c : Int) : Prop := c.natAbs < 2 ^ m
theorem Bt.bits {m : Nat} {c : Int} (h : Bt m c) : Builtin.Int.intBits c ≤ m := by
  unfold Builtin.Int.intBits
  by_cases hc : c = 0
  · simp [hc]
  · have hn : c.natAbs ≠ 0 := by omega
    simp only [beq_iff_eq, hc, if_false]
    exact (Nat.log2_lt hn).mpr h
theorem Bt.mul {m : Nat} {a b : Int} (ha : Bt m a) (hb : Bt m b) (hm : m ≤ 67108864) : IntMulOk a b := by
  have h1 := ha.bits
  have h2 := hb.bits
  have hc : Builtin.Int.intTooBig ((Builtin.Int.intBits a : Nat) + (Builtin.Int.intBits b : Nat) : Int) = false := by
    unfold Builtin.Int.intTooBig bitsLine
    simp only [gt_iff_lt, decide_eq_false_iff_not, Int.not_lt]
    have : (2 : Nat) ^ 27 = 134217728 := by decide
    omega
  unfold IntMulOk
  rw [hc]
  simp
theorem Bt.add {m : Nat} {a b : Int} (ha : Bt m a) (hb : Bt m b) : Bt (m + 1) (a + b) := by
  unfold Bt at *
  rw [Nat.pow_succ]
  omega
theorem Bt.mono {m n : Nat} {a : Int} (ha : Bt m a) (h : m ≤ n) : Bt n a := Nat.lt_of_lt_of_le ha (Nat.pow_le_pow_right (by decide) h)
theorem Bt.small {a : Int} (h1 : -1000000000000 ≤ a) (h2 : a ≤ 1000000000000) : Bt 40 a := by
  unfold Bt
  have : (2 : Nat) ^ 40 = 1099511627776 := by decide
  omega
end L2
namespace L2
open PySem PySem.Spec PyProof.Rows
section
variable {K : PySem.W.Frag}
theorem RefR.weak {r : R2} {rw rw' : R2W} (h : RefR K r rw) (imp : ∀ x y O R, rw' x y O R → rw x y O R) : RefR K r rw' := fun Γ O H x y v u S rx ry Q R hT k => h Γ O H x y v u S rx ry Q R (imp _ _ _ _ hT) k
theorem RefC.weak {r : List V → Hp → VK → Prop} {rw rw' : List W → OM → WK → Prop} (h : RefC K r rw) (imp : ∀ x O R, rw' x O R → rw x O R) : RefC K r rw' := fun Γ O H xs vs S rs Q R hT k => h Γ O H xs vs S rs Q R (imp _ _ _ hT) k
noncomputable def UP (i : Nat) : TEW := fun ρ O R => match ρ[i]? with
  | some (some w) => R w O
  | _ => False
theorem zda {i : Nat} : RefE K (Ug i) (UP i) := fun Γ O H ρ σ S r Q R hT k => za8 Γ O H ρ σ S r Q R (by
  unfold UP at hT
  split at hT
  · rename_i w e; exact ⟨w, e, hT⟩
  · exact hT.elim) k
noncomputable def vI0 (g : Int → Int → V) : R2W := fun x y O R => match x, y with
  | .d (.int i), .d (.int j) => R (ofV (g i j)) O
  | _, _ => False
noncomputable def vI (C : Int → Int → Prop) (g : Int → Int → V) : R2W := fun x y O R => match x, y with
  | .d (.int i), .d (.int j) => C i j ∧ R (ofV (g i j)) O
  | _, _ => False
theorem zdM {g : Int → Int → V} (hg : ∀ i j, scV (g i j) = true := by intro _ _; rfl) : RefR K (rI0 g) (vI0 g) := (zec hg).weak fun x y O R h => by
  unfold vI0 at h
  split at h
  · exact ⟨_, _, rfl, rfl, h⟩
  · exact h.elim
theorem zek {C : Int → Int → Prop} {g : Int → Int → V} (hg : ∀ i j, scV (g i j) = true := by intro _ _; rfl) : RefR K (rI C g) (vI C g) := (r_I hg).weak fun x y O R h => by
  unfold vI at h
  split at h
  · exact ⟨_, _, rfl, rfl, h⟩
  · exact h.elim
noncomputable def vU (g : Int → V) : W → OM → WK → Prop := fun x O R => match x with
  | .d (.int i) => R (ofV (g i)) O
  | _ => False
theorem zel {g : Int → V} (hg : ∀ i, scV (g i) = true := by intro _; rfl) : RefU K (rU g) (vU g) := fun Γ O H x v S rx Q R h k => r_U hg Γ O H x v S rx Q R (by
  unfold vU at h
  split at h
  · exact ⟨_, rfl, h⟩
  · exact h.elim) k
noncomputable def vEq : R2W := fun x y O R => match x, y with
  | .d (.int i), .d (.int j) => R (.d (.bool (decide (i = j)))) O
  | .d a, .d b => scD a = true ∧ scD b = true ∧ kI (vOf a) (vOf b) = true ∧ R (.d (.bool (decide (vOf a = vOf b)))) O
  | _, _ => False
noncomputable def vNe : R2W := fun x y O R => match x, y with
  | .d (.int i), .d (.int j) => R (.d (.bool (!decide (i = j)))) O
  | .d a, .d b => scD a = true ∧ scD b = true ∧ kI (vOf a) (vOf b) = true ∧ R (.d (.bool (!decide (vOf a = vOf b)))) O
  | _, _ => False
theorem zdN : RefR K rEq vEq := zed.weak fun x y O R h => by
  unfold vEq at h
  split at h
  · rename_i i j
    have e : decide (vOf (.int i) = vOf (.int j)) = decide (i = j) := by simp [vOf]
    exact ⟨.int i, .int j, rfl, rfl, rfl, rfl, rfl, by rw [e]; exact h⟩
  · exact ⟨_, _, rfl, rfl, h⟩
  · exact h.elim
theorem zdO : RefR K rNe vNe := zee.weak fun x y O R h => by
  unfold vNe at h
  split at h
  · rename_i i j
    have e : decide (vOf (.int i) = vOf (.int j)) = decide (i = j) := by simp [vOf]
    exact ⟨.int i, .int j, rfl, rfl, rfl, rfl, rfl, by rw [e]; exact h⟩
  · exact ⟨_, _, rfl, rfl, h⟩
  · exact h.elim
noncomputable def UQ : R2W := fun x y O R => match y with
  | .d .none => R (.d (.bool (xS x))) O
  | _ => False
noncomputable def YT : R2W := fun x y O R => match y with
  | .d .none => R (.d (.bool (!xS x))) O
  | _ => False
theorem zdb : RefR K (fun x y H Q => y = .non ∧ Q (.bl (decide (x = .non))) H) UQ := zdC.weak fun x y O R h => by
  unfold UQ at h
  split at h
  · exact ⟨rfl, h⟩
  · exact h.elim
theorem zby : RefR K (fun x y H Q => y = .non ∧ Q (.bl (!decide (x = .non))) H) YT := zcy.weak fun x y O R h => by
  unfold YT at h
  split at h
  · exact ⟨rfl, h⟩
  · exact h.elim
noncomputable def Ku : R2W := fun x y O R => match y with
  | .d (.int i) => ∃ ws, yS O x = some ws ∧ ∃ w, atI ws i = some w ∧ R w O
  | _ => False
theorem zdc : RefR K (UB K) Ku := zdE.weak fun x y O R h => by
  unfold Ku at h
  split at h
  · obtain ⟨ws, e, w, e2, h⟩ := h
    exact ⟨ws, _, w, rfl, e, e2, h⟩
  · exact h.elim
noncomputable def YU (T : TEW) : TTW := fun ρ O R => T ρ O fun x O1 => match x with
  | .d (.bool k) => R k O1
  | _ => False
theorem Uc {t : TE} {T : TEW} (h : RefE K t T) : xZ K (Uq t) (YU T) := by
  intro Γ O H ρ σ S r0 Q R hT k
  refine h Γ O H ρ σ S r0 _ _ hT fun Γ1 O1 H1 x v l1 S1 rx h1 => ?_
  split at h1
  · exact ⟨_, rx, k _ _ _ _ l1 S1 h1⟩
  · exact h1.elim
theorem zdP {t : TE} {T : TEW} (h : RefE K t T) : xZ K (tB t) (YU T) := Uc h
noncomputable def Xw (r r' : R2W) (Ta Tb Tc : TEW) : TEW := fun ρ O R => Ta ρ O fun x O1 => Tb ρ O1 fun y O2 => r x y O2 fun z O3 => match z with
  | .d (.bool k) => if k = true then Tc ρ O3 fun w O4 => r' y w O4 R else R (.d (.bool false)) O3
  | _ => False
theorem Kv {r r' : R2} {rw rw' : R2W} {ta tb tc : TE} {Ta Tb Tc : TEW} (hr : RefR K r rw) (hr' : RefR K r' rw') (ha : RefE K ta Ta) (hb : RefE K tb Tb) (hc : RefE K tc Tc) : RefE K (Y9 r r' ta tb tc) (Xw rw rw' Ta Tb Tc) := by
  intro Γ O H ρ σ S r0 Q R h k
  refine ha Γ O H ρ σ S r0 _ _ h fun Γ1 O1 H1 x v l1 S1 rx h1 => ?_
  refine hb Γ1 O1 H1 ρ σ S1 (r0.mono l1) _ _ h1 fun Γ2 O2 H2 y u l2 S2 ry h2 => ?_
  refine hr Γ2 O2 H2 x y v u S2 (rx.mono l2) ry _ _ h2 fun Γ3 O3 H3 w z l3 S3 rz h3 => ?_
  split at h3
  · rename_i c
    refine ⟨c, rz, ?_⟩
    have l13 := (l1.trans l2).trans l3
    cases c with
    | true =>
      rw [if_pos rfl] at h3 ⊢
      refine hc _ _ _ _ _ S3 (r0.mono l13) _ _ h3 fun Γ4 O4 H4 q z4 l4 S4 r4 h4 => ?_
      exact hr' _ _ _ _ _ _ _ S4 (ry.mono (l3.trans l4)) r4 _ _ h4 fun Γ5 O5 H5 w5 z5 l5 S5 r5 h5 => k _ _ _ _ _ ((l13.trans l4).trans l5) S5 r5 h5
    | false => rw [if_neg (by decide)] at h3 ⊢; exact k _ _ _ _ _ l13 S3 vn h3
  · exact h3.elim
noncomputable def Kw (K : PySem.W.Frag) (Ta : TEW) (f : Str) : TEW := fun ρ O R => Ta ρ O fun x O1 => match x with
  | .own a => ∃ C dx fs, O1 a = some (.ins C dx fs) ∧ Cls K C ∧ NoAttr K C f ∧ ∃ w, fs.lookup f = some w ∧ R w O1
  | _ => False
theorem zdd {ta : TE} {Ta : TEW} {f : Str} (ha : RefE K ta Ta) : RefE K (JI K ta f) (Kw K Ta f) := by
  intro Γ O H ρ σ S r0 Q R hT k
  refine ha Γ O H ρ σ S r0 _ _ hT fun Γ1 O1 H1 x v l1 S1 rx h1 => ?_
  split at h1
  · obtain ⟨C, dx, fs, ho, c, na, w, e, h1⟩ := h1
    obtain ⟨_, vs, q1, q2⟩ := S1.o _ _ ho
    obtain ⟨u, e', ru⟩ := (Zt q2).2 w e
    exact ⟨_, C, dx, vs, u, rx, q1, c, na, e', k _ _ _ _ _ l1 S1 ru h1⟩
  · exact h1.elim
noncomputable def UR (K : PySem.W.Frag) (Ta Tv : TEW) (f : Str) : TSW := fun D ρ O => Tv ρ O fun y O1 => Ta ρ O1 fun x O2 => match x with
  | .own a => ∃ C dx fs, O2 a = some (.ins C dx fs) ∧ Cls K C ∧ NoAttr K C f ∧ fs.length < 1000 ∧ D.nx ρ (updO O2 a (.ins C dx (xh f y fs)))
  | _ => False
theorem zbz {ta tv : TE} {Ta Tv : TEW} {f : Str} (ha : RefE K ta Ta) (hv : RefE K tv Tv) : RefS K (JJ K ta tv f) (UR K Ta Tv f) := by
  intro Γ O H ρ σ D DW S r0 hT e
  refine hv Γ O H ρ σ S r0 _ _ hT fun Γ1 O1 H1 y u l1 S1 ry h1 => ?_
  refine ha _ _ _ _ _ S1 (r0.mono l1) _ _ h1 fun Γ2 O2 H2 x v l2 S2 rx h2 => ?_
  split at h2
  · obtain ⟨C, dx, fs, ho, c, na, hl, h2⟩ := h2
    obtain ⟨_, vs, q1, q2⟩ := S2.o _ _ ho
    refine ⟨_, C, dx, vs, rx, q1, c, na, by rw [← Paired.length q2]; exact hl, ?_⟩
    exact e.nx _ _ _ _ _ (l1.trans l2) (S2.put (oo := .ins C dx _) ho (by intro _ h; cases h) (by intro _ h; cases h) ⟨_, zX, UN (ry.mono l2) q2⟩) (r0.mono (l1.trans l2)) h2
  · exact h2.elim
noncomputable def Xx (Td Ty : TEW) : TEW := fun ρ O R => Td ρ O fun x O1 => Ty ρ O1 fun y O2 => match x, jG y with
  | .own a, some k => ∃ kvs, O2 a = some (.dK kvs) ∧ ∃ w, y8 kvs k = some w ∧ R w O2
  | _, _ => False
theorem Kx {td ty : TE} {Td Ty : TEW} (hd : RefE K td Td) (hy : RefE K ty Ty) : RefE K (Q1 td ty) (Xx Td Ty) := by
  intro Γ O H ρ σ S r0 Q R hT k
  refine hd Γ O H ρ σ S r0 _ _ hT fun Γ1 O1 H1 x v l1 S1 rx h1 => ?_
  refine hy _ _ _ _ _ S1 (r0.mono l1) _ _ h1 fun Γ2 O2 H2 y u l2 S2 ry h2 => ?_
  split at h2
  · rename_i ky ek
    obtain ⟨kvs, ho, w, ev, h2⟩ := h2
    obtain ⟨_, vs, q1, q2⟩ := S2.o _ _ ho
    obtain ⟨z, ez, rz⟩ := (jH q2).2 w ev
    exact ⟨_, vs, ky, z, rx, q1, kl ry ek, ez, k _ _ _ _ _ (l1.trans l2) S2 rz h2⟩
  · exact h2.elim
noncomputable def Xy (Td Ty Tv : TEW) : TSW := fun D ρ O => Tv ρ O fun w O1 => Td ρ O1 fun x O2 => Ty ρ O2 fun y O3 => match x, jG y with
  | .own a, some k => ∃ kvs, O3 a = some (.dK kvs) ∧ kvs.length < 1000 ∧ D.nx ρ (updO O3 a (.dK (yV kvs k w)))
  | _, _ => False
theorem Ky {td ty tv : TE} {Td Ty Tv : TEW} (hd : RefE K td Td) (hy : RefE K ty Ty) (hv : RefE K tv Tv) : RefS K (Q2 td ty tv) (Xy Td Ty Tv) := by
  intro Γ O H ρ σ D DW S r0 hT e
  refine hv Γ O H ρ σ S r0 _ _ hT fun Γ1 O1 H1 w z l1 S1 rw h1 => ?_
  refine hd _ _ _ _ _ S1 (r0.mono l1) _ _ h1 fun Γ2 O2 H2 x v l2 S2 rx h2 => ?_
  refine hy _ _ _ _ _ S2 (r0.mono (l1.trans l2)) _ _ h2 fun Γ3 O3 H3 y u l3 S3 ry h3 => ?_
  split at h3
  · rename_i ky ek
    obtain ⟨kvs, ho, hl, h3⟩ := h3
    obtain ⟨_, vs, q1, q2⟩ := S3.o _ _ ho
    refine ⟨_, vs, ky, rx, q1, kl ry ek, by rw [← Paired.length q2]; exact hl, ?_⟩
    have l13 := (l1.trans l2).trans l3
    exact e.nx _ _ _ _ _ l13 (S3.put (oo := .dK _) ho (by intro _ h; cases h) (by intro _ h; cases h) ⟨_, zX, Ys ((rw.mono l2).mono l3) q2⟩) (r0.mono l13) h3
  · exact h3.elim
noncomputable def vI2 (g : Int → Int → Int) : List W → OM → WK → Prop := fun xs O R => match xs with
  | [.d (.int i), .d (.int j)] => R (.d (.int (g i j))) O
  | _ => False
theorem zdQ {g : Int → Int → Int} : RefC K (fun xs H Q => ∃ i j, xs = [.int i, .int j] ∧ Q (.int (g i j)) H) (vI2 g) := zeh.weak fun x O R h => by
  unfold vI2 at h
  split at h
  · exact ⟨_, _, rfl, h⟩
  · exact h.elim
end
end L2
namespace L2
open PySem PySem.Spec PyProof.Rows
structure ST where
  w : Nat
  h : Nat
  row : Int
  col : Int
  late : Bool
  ink : Int
  wrap : Bool
  putting : Bool
  home : Bool
  top : Int
  bottom : Int
  left : Int
  right : Int
  last : PyData
  pic : PF
noncomputable def fldW (p st kp : Addr) (S : ST) : List (Str × W) := [("picture", .own p), ("wide", .d (.int S.w)), ("high", .d (.int S.h)), ("row", .d (.int S.row)), ("column", .d (.int S.col)), ("late", .d (.bool S.late)), ("ink", .d (.int S.ink)), ("wrap", .d (.bool S.wrap)), ("putting", .d (.bool S.putting)), ("home", .d (.bool S.home)), ("top", .d (.int S.top)), ("bottom", .d (.int S.bottom)), ("left", .d (.int S.left)), ("right", .d (.int S.right)), ("stops", .own st), ("kept", .own kp), ("last", .d S.last)]
noncomputable def ownW (q : Addr) (S : ST) : List (Key × W) := [(Sum.inr "wide", .d (.int S.w)), (Sum.inr "high", .d (.int S.h)), (Sum.inr "top", .d (.int S.top)), (Sum.inr "left", .d (.int S.left)), (Sum.inr "cells", .own q), (Sum.inr "bottom", .d (.int S.bottom)), (Sum.inr "right", .d (.int S.right)), (Sum.inr "home", .d (.bool S.home)), (Sum.inr "putting", .d (.bool S.putting)), (Sum.inr "wrap", .d (.bool S.wrap)), (Sum.inr "last", .d S.last), (Sum.inr "late", .d (.bool S.late)), (Sum.inr "ink", .d (.int S.ink)), (Sum.inr "row", .d (.int S.row)), (Sum.inr "column", .d (.int S.col))]
section
variable {p st kp q : Addr} {S : ST}
theorem yL : (fldW p st kp S).length = 17 := rfl
theorem xm : (ownW q S).length = 15 := rfl
theorem zv : (fldW p st kp S).lookup (Str.ofString "picture") = some (W.own p) := rfl
theorem z7 : (fldW p st kp S).lookup (Str.ofString "wide") = some (W.d (.int S.w)) := rfl
theorem z9 : (fldW p st kp S).lookup (Str.ofString "high") = some (W.d (.int S.h)) := rfl
theorem yu : (fldW p st kp S).lookup (Str.ofString "row") = some (W.d (.int S.row)) := rfl
theorem zy : (fldW p st kp S).lookup (Str.ofString "column") = some (W.d (.int S.col)) := rfl
theorem ya : (fldW p st kp S).lookup (Str.ofString "late") = some (W.d (.bool S.late)) := rfl
theorem yv : (fldW p st kp S).lookup (Str.ofString "ink") = some (W.d (.int S.ink)) := rfl
theorem yb : (fldW p st kp S).lookup (Str.ofString "wrap") = some (W.d (.bool S.wrap)) := rfl
theorem zw : (fldW p st kp S).lookup (Str.ofString "putting") = some (W.d (.bool S.putting)) := rfl
theorem yc : (fldW p st kp S).lookup (Str.ofString "home") = some (W.d (.bool S.home)) := rfl
theorem yw : (fldW p st kp S).lookup (Str.ofString "top") = some (W.d (.int S.top)) := rfl
theorem zz : (fldW p st kp S).lookup (Str.ofString "bottom") = some (W.d (.int S.bottom)) := rfl
theorem yd : (fldW p st kp S).lookup (Str.ofString "left") = some (W.d (.int S.left)) := rfl
theorem zG : (fldW p st kp S).lookup (Str.ofString "right") = some (W.d (.int S.right)) := rfl
theorem zH : (fldW p st kp S).lookup (Str.ofString "stops") = some (W.own st) := rfl
theorem ye : (fldW p st kp S).lookup (Str.ofString "kept") = some (W.own kp) := rfl
theorem yf : (fldW p st kp S).lookup (Str.ofString "last") = some (W.d S.last) := rfl
theorem zK : y8 (ownW q S) (Sum.inr (Str.ofString "wide")) = some (W.d (.int S.w)) := rfl
theorem zL : y8 (ownW q S) (Sum.inr (Str.ofString "high")) = some (W.d (.int S.h)) := rfl
theorem yl : y8 (ownW q S) (Sum.inr (Str.ofString "top")) = some (W.d (.int S.top)) := rfl
theorem zM : y8 (ownW q S) (Sum.inr (Str.ofString "left")) = some (W.d (.int S.left)) := rfl
theorem zC : y8 (ownW q S) (Sum.inr (Str.ofString "cells")) = some (W.own q) := rfl
theorem zq : y8 (ownW q S) (Sum.inr (Str.ofString "bottom")) = some (W.d (.int S.bottom)) := rfl
theorem zD : y8 (ownW q S) (Sum.inr (Str.ofString "right")) = some (W.d (.int S.right)) := rfl
theorem zN : y8 (ownW q S) (Sum.inr (Str.ofString "home")) = some (W.d (.bool S.home)) := rfl
theorem zo : y8 (ownW q S) (Sum.inr (Str.ofString "putting")) = some (W.d (.bool S.putting)) := rfl
theorem zO : y8 (ownW q S) (Sum.inr (Str.ofString "wrap")) = some (W.d (.bool S.wrap)) := rfl
theorem zP : y8 (ownW q S) (Sum.inr (Str.ofString "last")) = some (W.d S.last) := rfl
theorem zQ : y8 (ownW q S) (Sum.inr (Str.ofString "late")) = some (W.d (.bool S.late)) := rfl
theorem ym : y8 (ownW q S) (Sum.inr (Str.ofString "ink")) = some (W.d (.int S.ink)) := rfl
theorem yn : y8 (ownW q S) (Sum.inr (Str.ofString "row")) = some (W.d (.int S.row)) := rfl
theorem zr : y8 (ownW q S) (Sum.inr (Str.ofString "column")) = some (W.d (.int S.col)) := rfl
theorem yx {x : Int} : xh (Str.ofString "row") (.d (.int x)) (fldW p st kp S) = fldW p st kp { S with row := x } := rfl
theorem yo {x : Int} : yV (ownW q S) (Sum.inr (Str.ofString "row")) (.d (.int x)) = ownW q { S with row := x } := rfl
theorem zA {x : Int} : xh (Str.ofString "column") (.d (.int x)) (fldW p st kp S) = fldW p st kp { S with col := x } := rfl
theorem zt {x : Int} : yV (ownW q S) (Sum.inr (Str.ofString "column")) (.d (.int x)) = ownW q { S with col := x } := rfl
theorem yg {x : Bool} : xh (Str.ofString "late") (.d (.bool x)) (fldW p st kp S) = fldW p st kp { S with late := x } := rfl
theorem zR {x : Bool} : yV (ownW q S) (Sum.inr (Str.ofString "late")) (.d (.bool x)) = ownW q { S with late := x } := rfl
theorem yy {x : Int} : xh (Str.ofString "ink") (.d (.int x)) (fldW p st kp S) = fldW p st kp { S with ink := x } := rfl
theorem yp {x : Int} : yV (ownW q S) (Sum.inr (Str.ofString "ink")) (.d (.int x)) = ownW q { S with ink := x } := rfl
theorem yh {x : Bool} : xh (Str.ofString "wrap") (.d (.bool x)) (fldW p st kp S) = fldW p st kp { S with wrap := x } := rfl
theorem zS {x : Bool} : yV (ownW q S) (Sum.inr (Str.ofString "wrap")) (.d (.bool x)) = ownW q { S with wrap := x } := rfl
theorem zx {x : Bool} : xh (Str.ofString "putting") (.d (.bool x)) (fldW p st kp S) = fldW p st kp { S with putting := x } := rfl
theorem zp {x : Bool} : yV (ownW q S) (Sum.inr (Str.ofString "putting")) (.d (.bool x)) = ownW q { S with putting := x } := rfl
theorem yi {x : Bool} : xh (Str.ofString "home") (.d (.bool x)) (fldW p st kp S) = fldW p st kp { S with home := x } := rfl
theorem zT {x : Bool} : yV (ownW q S) (Sum.inr (Str.ofString "home")) (.d (.bool x)) = ownW q { S with home := x } := rfl
theorem yz {x : Int} : xh (Str.ofString "top") (.d (.int x)) (fldW p st kp S) = fldW p st kp { S with top := x } := rfl
theorem yq {x : Int} : yV (ownW q S) (Sum.inr (Str.ofString "top")) (.d (.int x)) = ownW q { S with top := x } := rfl
theorem zB {x : Int} : xh (Str.ofString "bottom") (.d (.int x)) (fldW p st kp S) = fldW p st kp { S with bottom := x } := rfl
theorem zu {x : Int} : yV (ownW q S) (Sum.inr (Str.ofString "bottom")) (.d (.int x)) = ownW q { S with bottom := x } := rfl
theorem yj {x : Int} : xh (Str.ofString "left") (.d (.int x)) (fldW p st kp S) = fldW p st kp { S with left := x } := rfl
theorem zU {x : Int} : yV (ownW q S) (Sum.inr (Str.ofString "left")) (.d (.int x)) = ownW q { S with left := x } := rfl
theorem zI {x : Int} : xh (Str.ofString "right") (.d (.int x)) (fldW p st kp S) = fldW p st kp { S with right := x } := rfl
theorem zE {x : Int} : yV (ownW q S) (Sum.inr (Str.ofString "right")) (.d (.int x)) = ownW q { S with right := x } := rfl
theorem yk {x : PyData} : xh (Str.ofString "last") (.d x) (fldW p st kp S) = fldW p st kp { S with last := x } := rfl
theorem zV {x : PyData} : yV (ownW q S) (Sum.inr (Str.ofString "last")) (.d x) = ownW q { S with last := x } := rfl
theorem zF {r : Addr} : yV (ownW q S) (Sum.inr (Str.ofString "cells")) (.own r) = ownW r S := rfl
end
structure StAt (O : OM) (C x dx p st kp : Addr) (S : ST) : Prop where
  x : O x = some (.ins C dx (fldW p st kp S))
  p : O p = some (.grid (genG S.h S.w S.pic))
  st : O st = some (.dK ((List.range ((S.w - 1) / 4)).map fun i => (Sum.inl (4 + (i : Nat) * 4 : Int), W.d (.bool true))))
  kp : O kp = some (.lst [])
theorem neW {O : OM} {a b : Addr} {o u : OO} (h : O a = some o) (h' : O b = some u) (d : o ≠ u) : a ≠ b := by
  intro e; subst e; rw [h] at h'; exact d (Option.some.inj h')
section
variable {O O' : OM} {C x dx p st kp : Addr} {S : ST}
theorem StAt.xp (s : StAt O C x dx p st kp S) : x ≠ p := neW s.x s.p (by intro h; cases h)
theorem StAt.xs (s : StAt O C x dx p st kp S) : x ≠ st := neW s.x s.st (by intro h; cases h)
theorem StAt.xk (s : StAt O C x dx p st kp S) : x ≠ kp := neW s.x s.kp (by intro h; cases h)
theorem StAt.ps (s : StAt O C x dx p st kp S) : p ≠ st := neW s.p s.st (by intro h; cases h)
theorem StAt.pk (s : StAt O C x dx p st kp S) : p ≠ kp := neW s.p s.kp (by intro h; cases h)
noncomputable def But (O O' : OM) (x p : Addr) : Prop := ∀ b, b ≠ x → b ≠ p → O' b = O b
theorem But.refl : But O O x p := fun _ _ _ => rfl
theorem But.trans {O1 O2 : OM} (a : But O O1 x p) (b : But O1 O2 x p) : But O O2 x p := fun c h1 h2 => (b c h1 h2).trans (a c h1 h2)
theorem But.ux {o : OO} : But O (updO O x o) x p := fun _ h _ => zi h
theorem But.up {o : OO} : But O (updO O p o) x p := fun _ _ h => zi h
theorem StAt.fld (s : StAt O C x dx p st kp S) {S' : ST} (hw : S'.w = S.w) (hh : S'.h = S.h) (hp : S'.pic = S.pic) : StAt (updO O x (.ins C dx (fldW p st kp S'))) C x dx p st kp S' :=
  ⟨zn, by rw [zi (Ne.symm s.xp), hw, hh, hp]; exact s.p, by rw [zi (Ne.symm s.xs), hw]; exact s.st, by rw [zi (Ne.symm s.xk)]; exact s.kp⟩
theorem StAt.pic (s : StAt O C x dx p st kp S) {f : PF} : StAt (updO O p (.grid (genG S.h S.w f))) C x dx p st kp { S with pic := f } :=
  ⟨by rw [zi s.xp]; exact s.x, zn, by rw [zi (Ne.symm s.ps)]; exact s.st, by rw [zi (Ne.symm s.pk)]; exact s.kp⟩
theorem StAt.of (s : StAt O C x dx p st kp S) {S' : ST} (hx : O' x = some (.ins C dx (fldW p st kp S'))) (hp : O' p = some (.grid (genG S'.h S'.w S'.pic))) (hw : S'.w = S.w) (b : But O O' x p) : StAt O' C x dx p st kp S' :=
  ⟨hx, hp, by rw [b _ (Ne.symm s.xs) (Ne.symm s.ps), hw]; exact s.st, by rw [b _ (Ne.symm s.xk) (Ne.symm s.pk)]; exact s.kp⟩
theorem StAt.keep (s : StAt O C x dx p st kp S) {y z : Addr} (b : But O O' y z) (h1 : x ≠ y) (h2 : x ≠ z) (h3 : p ≠ y) (h4 : p ≠ z) (h5 : st ≠ y) (h6 : st ≠ z) (h7 : kp ≠ y) (h8 : kp ≠ z) : StAt O' C x dx p st kp S :=
  ⟨by rw [b _ h1 h2]; exact s.x, by rw [b _ h3 h4]; exact s.p, by rw [b _ h5 h6]; exact s.st, by rw [b _ h7 h8]; exact s.kp⟩
end
structure Bds (S : ST) : Prop where
  w1 : 1 ≤ S.w
  w2 : S.w ≤ 24
  h1 : 1 ≤ S.h
  h2 : S.h ≤ 12
  r0 : 0 ≤ S.row
  r1 : S.row < S.h
  c0 : 0 ≤ S.col
  c1 : S.col < S.w
  t0 : 0 ≤ S.top
  tb : S.top ≤ S.bottom
  b1 : S.bottom < S.h
  l0 : 0 ≤ S.left
  lr : S.left ≤ S.right
  rr : S.right < S.w
  i0 : 0 ≤ S.ink
  i1 : S.ink < 512
end L2
namespace L2
open PySem PySem.Spec PyProof.Rows
theorem zh {p q : Prop} [Decidable p] [Decidable q] {a b : Prop} : (if p then (if q then a else b) else b) = (if p ∧ q then a else b) := by
  by_cases hp : p <;> by_cases hq : q <;> simp [hp, hq]
noncomputable def xq : PyData → Prop
  | .none => True
  | .int i => 0 ≤ i ∧ i ≤ 1000000
  | _ => False
theorem xq.cs {n : PyData} (h : xq n) : n = .none ∨ ∃ i, n = .int i ∧ 0 ≤ i ∧ i ≤ 1000000 := by
  cases n <;> first | exact .inl rfl | exact h.elim | exact .inr ⟨_, rfl, h.1, h.2⟩
noncomputable def yJ : PyData → Int
  | .int i => if i > 1 then i else 1
  | _ => 1
theorem vK {n : PyData} : 1 ≤ yJ n := by cases n <;> simp [yJ]; split <;> omega
theorem uz {n : PyData} (h : xq n) : yJ n ≤ 1000000 := by
  rcases h.cs with rfl | ⟨i, rfl, h0, h1⟩
  · decide
  · simp only [yJ]; split <;> omega
noncomputable def uM : SpW := fun ws O R => ∃ n, ws = [.d n] ∧ xq n ∧ R (.d (.int (yJ n))) O
noncomputable def sI1 (P : Int → Prop) (f : Int → Int) : SpW := fun ws O R => ∃ a, ws = [.d (.int a)] ∧ P a ∧ R (.d (.int (f a))) O
noncomputable def sI2 (P : Int → Int → Prop) (f : Int → Int → Int) : SpW := fun ws O R => ∃ a b, ws = [.d (.int a), .d (.int b)] ∧ P a b ∧ R (.d (.int (f a b))) O
noncomputable def sI3 (P : Int → Int → Int → Prop) (f : Int → Int → Int → Int) : SpW := fun ws O R => ∃ a b c, ws = [.d (.int a), .d (.int b), .d (.int c)] ∧ P a b c ∧ R (.d (.int (f a b c))) O
noncomputable def x0 (n : PyData) (a b : Int) : Int := if b < a + yJ n - 1 then b else a + yJ n - 1
noncomputable def ja : SpW := fun ws O R => ∃ n a b, ws = [.d n, .d (.int a), .d (.int b)] ∧ xq n ∧ R (.d (.int (x0 n a b))) O
noncomputable def xT (c k : Int) : Int := (c + 7919 * k + 3) * (c + 7919 * k + 3) % 2147483647 * 48271 % 2147483647
theorem vL (c k : Int) : 0 ≤ xT c k := Int.emod_nonneg _ (by decide)
theorem zbA (c k : Int) : xT c k < 2147483647 := Int.emod_lt_of_pos _ (by decide)
noncomputable def km : SpW := fun ws O R => ∃ ns : List Int, ∃ k : Nat, ws = [.d (.list (ns.map .int)), .d (.int k)] ∧ R (.d (.int (ns.getD k 0))) O
noncomputable def uN : SpW := fun ws O R => ∃ c : Int, ∃ k : Int, ws = [.d (.int c), .d (.int k)] ∧ 0 ≤ k ∧ k ≤ 1000 ∧ Bt 1048600 c ∧ R (.d (.int (xT c k))) O
noncomputable def US : PyData → Int
  | .int i => if i = 0 then 1 else i
  | _ => 1
theorem Kz {n : PyData} (h : xq n) : US n = yJ n := by
  rcases h.cs with rfl | ⟨i, rfl, h0, h1⟩
  · rfl
  · simp only [US, yJ]; split <;> split <;> omega
noncomputable def Zw : SpW := fun ws O R => ∃ n, ws = [.d n] ∧ xq n ∧ R (.d (.int (US n))) O
noncomputable def Zx : SpW := fun ws O R => ∃ n lo hi, ws = [.d (.int n), .d (.int lo), .d (.int hi)] ∧ R (.d (.bool (decide (lo ≤ n ∧ n ≤ hi)))) O
noncomputable def UT : SpW := fun ws O R => ∃ a b : Nat, ws = [.d (.int a), .d (.int b)] ∧ 1 ≤ a ∧ a ≤ 24 ∧ 1 ≤ b ∧ b ≤ 12 ∧ R (.d (.bool true)) O
noncomputable def va (m : PyData) (size : Int) : Int := match m with
  | .int i => if i = 0 then size else if size < i then size else i
  | _ => size
noncomputable def YV (n m : PyData) (size : Int) : PyData := if va m size < yJ n then .none else .tuple [.int (yJ n - 1), .int (va m size - 1)]
noncomputable def Zy : SpW := fun ws O R => ∃ n m s, ws = [.d n, .d m, .d (.int s)] ∧ xq n ∧ xq m ∧ R (.d (YV n m s)) O
noncomputable def vM (ink : Int) (n : PyData) : Int := match n with
  | .int i => if i = 0 then 0
    else if 1 ≤ i ∧ i ≤ 3 then Builtin.bitOr ink ((xJ [(0, 64), (1, 128), (2, 256)] (i - 1)).getD 0)
    else if 4 ≤ i ∧ i ≤ 6 then Builtin.bitAnd ink (Builtin.bitNot ((xJ [(0, 64), (1, 128), (2, 256)] (i - 4)).getD 0))
    else if i = 7 then Builtin.bitXor ink 448
    else if 10 ≤ i ∧ i ≤ 17 then (i - 10) + 8 * Builtin.bitAnd (ink / 8) 7 + 64 * Builtin.bitAnd (ink / 64) 7
    else if 20 ≤ i ∧ i ≤ 27 then Builtin.bitAnd ink 7 + 8 * (i - 20) + 64 * Builtin.bitAnd (ink / 64) 7
    else ink
  | _ => 0
noncomputable def Ink (i : Int) : Prop := 0 ≤ i ∧ i < 512
noncomputable def qJ : SpW := sI3 (fun a b c => -1000 ≤ b ∧ b ≤ 1000 ∧ -1000 ≤ c ∧ c ≤ 1000) (fun a b c => a + 8 * b + 64 * c)
noncomputable def YW : SpW := fun ws O R => ∃ ink n, ws = [.d (.int ink), .d n] ∧ Ink ink ∧ xq n ∧ R (.d (.int (vM ink n))) O
noncomputable def eT (S : ST) : Int := if S.top ≤ S.row then S.top else 0
noncomputable def eB (S : ST) : Int := if S.row ≤ S.bottom then S.bottom else S.h - 1
noncomputable def eL (S : ST) : Int := if S.left ≤ S.col then S.left else 0
noncomputable def eR (S : ST) : Int := if S.col ≤ S.right then S.right else S.w - 1
noncomputable def plS (r c : PyData) (S : ST) : ST := if S.home = true then { S with row := x0 r S.top S.bottom, col := x0 c S.left S.right, late := false } else { S with row := x0 r 0 (S.h - 1), col := x0 c 0 (S.w - 1), late := false }
noncomputable def YX (a b : PyData) (S : ST) : ST := if va b S.h < yJ a then S else plS .none .none { S with top := yJ a - 1, bottom := va b S.h - 1 }
noncomputable def YY (a b : PyData) (S : ST) : ST := if va b S.w < yJ a then S else plS .none .none { S with left := yJ a - 1, right := va b S.w - 1 }
noncomputable def YZ (k : Int) (on : Bool) (S : ST) : ST := if k = 1 then { S with wrap := on } else if k = 2 then { S with putting := on } else if k = 3 then plS .none .none { S with home := on } else S
noncomputable def xx (i : Int) : Cel := (Str.ofString " ", i)
noncomputable def atF (f : PF) (i j : Int) : Cel := f i.toNat j.toNat
noncomputable def mvP (f : PF) (ink t b l r dn ac : Int) : PF := fun i j =>
  if t ≤ (i : Int) ∧ (i : Int) ≤ b ∧ l ≤ (j : Int) ∧ (j : Int) ≤ r then (if t ≤ i + dn ∧ i + dn ≤ b ∧ l ≤ j + ac ∧ j + ac ≤ r then atF f (i + dn) (j + ac) else xx ink) else f i j
noncomputable def mvS (t b l r dn ac : Int) (S : ST) : ST := { S with pic := mvP S.pic S.ink t b l r dn ac }
noncomputable def sSt (C : Addr) (args : List W) (pre : ST → Prop) (f : ST → ST) : SpW := fun ws O R => ∃ x dx p st kp S, ws = .own x :: args ∧ StAt O C x dx p st kp S ∧ pre S ∧ ∀ O', StAt O' C x dx p st kp (f S) → But O O' x p → R (.d .none) O'
noncomputable def jJ (C : Addr) : SpW := fun ws O R => ∃ x dx p st kp S, ws = [.own x] ∧ StAt O C x dx p st kp S ∧ R (.d (.tuple [.int (eT S), .int (eB S), .int (eL S), .int (eR S)])) O
noncomputable def uO (C : Addr) : SpW := fun ws O R => ∃ x dx p st kp S, ws = [.own x] ∧ StAt O C x dx p st kp S ∧ R (.d (yE (xx S.ink))) O
noncomputable def Zz (C : Addr) : SpW := fun ws O R => ∃ r c, xq r ∧ xq c ∧ sSt C [.d r, .d c] (fun _ => True) (plS r c) ws O R
noncomputable def ZA (C : Addr) : SpW := sSt C [] (fun _ => True) (plS .none .none)
noncomputable def UU (C : Addr) : SpW := fun ws O R => ∃ a b, xq a ∧ xq b ∧ sSt C [.d a, .d b] (fun _ => True) (YX a b) ws O R
noncomputable def UV (C : Addr) : SpW := fun ws O R => ∃ a b, xq a ∧ xq b ∧ sSt C [.d a, .d b] (fun _ => True) (YY a b) ws O R
noncomputable def jb (ns : List PyData) (S : ST) : ST := { S with ink := ns.foldl vM S.ink }
noncomputable def UW (C : Addr) : SpW := fun ws O R => ∃ ns : List PyData, (∀ n ∈ ns, xq n) ∧ sSt C [.d (.tuple ns)] (fun S => Ink S.ink) (jb ns) ws O R
noncomputable def ZB (C : Addr) : SpW := fun ws O R => ∃ k on, sSt C [.d (.tuple [.int k]), .d (.bool on)] (fun _ => True) (YZ k on) ws O R
noncomputable def u7 (a s : Int) (S : ST) : ST := mvS a S.bottom S.left S.right s 0 S
noncomputable def zde (a : Int) (S : ST) : Prop := Bds S ∧ 0 ≤ a ∧ a ≤ S.bottom
noncomputable def uq (C : Addr) : SpW := fun ws O R => ∃ a s, -2000000 ≤ s ∧ s ≤ 2000000 ∧ sSt C [.d (.int a), .d (.int s)] (zde a) (u7 a s) ws O R
noncomputable def ZC (C : Addr) : SpW := fun ws O R => ∃ a s, -2000000 ≤ s ∧ s ≤ 2000000 ∧ sSt C [.d (.int a), .d (.int s)] (zde a) (u7 a (-s)) ws O R
noncomputable def u8 (s : Int) (S : ST) : ST := if S.top ≤ S.row ∧ S.row ≤ S.bottom then { u7 S.row s S with late := false } else { S with late := false }
noncomputable def UX (C : Addr) : SpW := fun ws O R => ∃ n, xq n ∧ sSt C [.d n] Bds (u8 (-(yJ n))) ws O R
noncomputable def UY (C : Addr) : SpW := fun ws O R => ∃ n, xq n ∧ sSt C [.d n] Bds (u8 (yJ n)) ws O R
noncomputable def uP (s : Int) (S : ST) : ST := { mvS S.row S.row S.col (eR S) 0 s S with late := false }
noncomputable def UZ (C : Addr) : SpW := fun ws O R => ∃ s, -2000000 ≤ s ∧ s ≤ 2000000 ∧ sSt C [.d (.int s)] Bds (uP s) ws O R
noncomputable def Y0 (C : Addr) : SpW := fun ws O R => ∃ n, xq n ∧ sSt C [.d n] Bds (uP (-(yJ n))) ws O R
noncomputable def u9 (S : ST) : ST := { S with col := eL S, late := false }
noncomputable def U0 (C : Addr) : SpW := sSt C [] (fun _ => True) u9
noncomputable def lineE (S : ST) : ST := let S1 := u9 S; if S1.row = S1.bottom then u7 S1.top 1 S1 else if S1.row < S1.h - 1 then { S1 with row := S1.row + 1 } else S1
noncomputable def ZD (C : Addr) : SpW := sSt C [] Bds lineE
noncomputable def qa (c : Str) (S : ST) : ST :=
  let S1 : ST := if S.late = true ∧ S.wrap = true then lineE S else S
  let S2 : ST := { S1 with late := false }
  let S3 : ST := if S2.putting = true then uP (-1) S2 else S2
  let S4 : ST := { S3 with pic := setF S3.pic S3.row.toNat S3.col.toNat (c, S3.ink), last := .str c }
  if S4.col < eR S4 then { S4 with col := S4.col + 1 } else { S4 with late := S4.wrap }
noncomputable def vN (C : Addr) : SpW := fun ws O R => ∃ c, sSt C [.d (.str c)] Bds (qa c) ws O R
noncomputable def qb : SpW := fun ws O R => ∃ (a : Nat) (i : Int), ws = [.d (.int a), .d (.int i)] ∧ a ≤ 24 ∧ ∀ p, O p = none → R (.own p) (updO O p (.lst (((List.range a).map fun _ => yE (xx i)).map .d)))
noncomputable def qd : SpW := fun ws O R => ∃ (a b : Nat) (i : Int), ws = [.d (.int a), .d (.int b), .d (.int i)] ∧ 1 ≤ a ∧ a ≤ 24 ∧ 1 ≤ b ∧ b ≤ 12 ∧ ∀ p, O p = none → R (.own p) (updO O p (.grid (genG b a fun _ _ => xx i)))
noncomputable def Z8 : SpW := fun ws O R => ∃ p h w f, ws = [.own p] ∧ O p = some (.grid (genG h w f)) ∧ h ≤ 12 ∧ R (.d (.list ((genG h w f).map .list))) O
noncomputable def qK (w : Nat) : List (Key × W) := (List.range ((w - 1) / 4)).map fun i => (Sum.inl (4 + (i : Nat) * 4 : Int), W.d (.bool true))
noncomputable def Xz : SpW := fun ws O R => ∃ a : Nat, ws = [.d (.int a)] ∧ 1 ≤ a ∧ a ≤ 24 ∧ ∀ p, O p = none → R (.own p) (updO O p (.dK (qK a)))
noncomputable def st0 (w h : Nat) (f : PF) : ST := ⟨w, h, 0, 0, false, 0, true, false, false, 0, h - 1, 0, w - 1, .none, f⟩
noncomputable def XA (C : Addr) : SpW := fun ws O R => ∃ x dx p, ∃ w h : Nat, ws = [.own x] ∧ O x = some (.ins C dx [("picture", .own p), ("wide", .d (.int w)), ("high", .d (.int h))]) ∧ 1 ≤ w ∧ w ≤ 24 ∧
  ∀ st kp O', O st = none → O kp = none → O' x = some (.ins C dx (fldW p st kp (st0 w h fun _ _ => xx 0))) → O' st = some (.dK (qK w)) → O' kp = some (.lst []) → (∀ b, b ≠ x → b ≠ st → b ≠ kp → O' b = O b) → R (.d .none) O'
noncomputable def U1 (C : Addr) : SpW := fun ws O R => ∃ x dx, ∃ w h : Nat, ws = [.own x, .d (.int w), .d (.int h)] ∧ O x = some (.ins C dx []) ∧ 1 ≤ w ∧ w ≤ 24 ∧ 1 ≤ h ∧ h ≤ 12 ∧
  ∀ p st kp O', O p = none → O st = none → O kp = none → StAt O' C x dx p st kp (st0 w h fun _ _ => xx 0) → (∀ b, b ≠ x → b ≠ p → b ≠ st → b ≠ kp → O' b = O b) → R (.d .none) O'
theorem KA {i : Int} (h : Ink i) : 0 ≤ Builtin.bitAnd (i / 8) 7 ∧ Builtin.bitAnd (i / 8) 7 ≤ 7 := by
  obtain ⟨n, rfl⟩ : ∃ n : _root_.Fin 512, i = ((n.val : Nat) : Int) := ⟨⟨i.toNat, by have := h.1; have := h.2; omega⟩, by have := h.1; simp only; omega⟩
  clear h
  revert n
  decide +kernel
theorem Yv {i : Int} (h : Ink i) : 0 ≤ Builtin.bitAnd (i / 64) 7 ∧ Builtin.bitAnd (i / 64) 7 ≤ 7 := by
  obtain ⟨n, rfl⟩ : ∃ n : _root_.Fin 512, i = ((n.val : Nat) : Int) := ⟨⟨i.toNat, by have := h.1; have := h.2; omega⟩, by have := h.1; simp only; omega⟩
  clear h
  revert n
  decide +kernel
theorem KB {i : Int} {n : PyData} (h : Ink i) : Ink (vM i n) := by
  cases n with
  | int k =>
    obtain ⟨m, rfl⟩ : ∃ m : _root_.Fin 512, i = ((m.val : Nat) : Int) := ⟨⟨i.toNat, by have := h.1; have := h.2; omega⟩, by have := h.1; simp only; omega⟩
    by_cases hk : 0 ≤ k ∧ k ≤ 27
    · obtain ⟨q, rfl⟩ : ∃ q : _root_.Fin 28, k = ((q.val : Nat) : Int) := ⟨⟨k.toNat, by omega⟩, by simp only; omega⟩
      clear h hk
      unfold Ink
      revert m q
      decide +kernel
    · simp only [vM]
      rw [if_neg (by omega), if_neg (by omega), if_neg (by omega), if_neg (by omega), if_neg (by omega), if_neg (by omega)]
      exact h
  | _ => exact ⟨Int.le_refl 0, (by decide : (0 : Int) < 512)⟩
end L2
namespace L2
open PySem PySem.Spec PyProof.Rows
theorem KC {h w : Nat} {f : PF} {k : Int} (h0 : 0 ≤ k) (h1 : k < h) : atI (((genG h w f).map PyData.list).map W.d) k = some (.d (.list ((List.range w).map fun j => yE (f k.toNat j)))) := by
  unfold genG
  rw [List.map_map, List.map_map]
  exact xa h0 h1
theorem XB {w : Nat} {g : Nat → Cel} {k : Int} (h0 : 0 ≤ k) (h1 : k < w) : atI (((List.range w).map fun j => yE (g j)).map W.d) k = some (.d (yE (g k.toNat))) := by
  rw [List.map_map]
  exact xa h0 h1
noncomputable def goP (N f : PF) (t l : Int) (i j : Nat) : PF := fun a b => if (a : Int) < t + i ∨ ((a : Int) = t + i ∧ (b : Int) < l + j) then N a b else f a b
theorem kR {N f : PF} {t l : Int} (hN : ∀ a b : Nat, (a : Int) < t ∨ ((a : Int) = t ∧ (b : Int) < l) → N a b = f a b) : goP N f t l 0 0 = f := by
  funext a b
  unfold goP
  split
  · rename_i e; exact hN a b (by omega)
  · rfl
theorem kS {N f : PF} {t l : Int} {i j : Nat} {r c : Nat} (hr : (r : Int) = t + i) (hc : (c : Int) = l + j) : setF (goP N f t l i j) r c (N r c) = goP N f t l i (j + 1) := by
  funext a b
  unfold setF goP
  by_cases e : a = r ∧ b = c
  · obtain ⟨rfl, rfl⟩ := e
    rw [if_pos ⟨rfl, rfl⟩, if_pos (by omega)]
  · rw [if_neg e]
    by_cases e2 : (a : Int) < t + i ∨ ((a : Int) = t + i ∧ (b : Int) < l + j)
    · rw [if_pos e2, if_pos (by omega)]
    · rw [if_neg e2, if_neg (by omega)]
theorem Z9 {N f : PF} {t l : Int} {i n : Nat} (hN : ∀ a b : Nat, (a : Int) = t + i → l + n ≤ b → N a b = f a b) (hM : ∀ a b : Nat, (a : Int) = t + i + 1 → (b : Int) < l → N a b = f a b) : goP N f t l i n = goP N f t l (i + 1) 0 := by
  funext a b
  unfold goP
  by_cases e2 : (a : Int) < t + i ∨ ((a : Int) = t + i ∧ (b : Int) < l + n)
  · rw [if_pos e2, if_pos (by omega)]
  · rw [if_neg e2]
    split
    · rename_i e3
      by_cases e4 : (a : Int) = t + i
      · exact (hN a b e4 (by omega)).symm
      · exact (hM a b (by omega) (by omega)).symm
    · rfl
theorem Ya {N f : PF} {t l : Int} {n : Nat} (hN : ∀ a b : Nat, t + n ≤ a → N a b = f a b) : goP N f t l n 0 = N := by
  funext a b
  unfold goP
  split
  · rfl
  · rename_i e
    by_cases e4 : t + n ≤ a
    · exact (hN a b e4).symm
    · exact absurd (.inl (by omega)) e
theorem xO {f : PF} {ink t b l r dn ac : Int} {i j : Nat} (h : ¬ (t ≤ (i : Int) ∧ (i : Int) ≤ b ∧ l ≤ (j : Int) ∧ (j : Int) ≤ r)) : mvP f ink t b l r dn ac i j = f i j := if_neg h
end L2
namespace L2
open PySem PySem.Spec PyProof.Rows
theorem Jh {O : OM} {ds : List PyData} : yS O (.d (.list ds)) = some (ds.map .d) := rfl
end L2
namespace L2
open PySem PySem.Spec PyProof.Rows
theorem ZE {T1 T2 T3 U : TSW} {D : EndsW} {ρ : WS} {O : OM} (J : WS → OM → Prop) (ht : ∀ R : WS → OM → Prop, (∀ ρ' O', J ρ' O' → R ρ' O') → uf T1 (uf T2 T3) { D with nx := R } ρ O) (hu : ∀ ρ' O', J ρ' O' → U D ρ' O') : uf T1 (uf T2 (uf T3 U)) D ρ O := ht (U D) hu
theorem zdf {α : Type} {a b c d : α} : atI [a, b, c, d] (3 : Int) = some d := rfl
theorem zaC {S : ST} (h : Bds S) : 0 ≤ eL S ∧ eL S < S.w := by
  have := h.l0; have := h.lr; have := h.rr; have := h.w1
  unfold eL; split <;> omega
theorem qe {S : ST} (h : Bds S) : S.col ≤ eR S ∧ eR S < S.w := by
  have := h.l0; have := h.lr; have := h.rr; have := h.c1
  unfold eR; split <;> omega
theorem Bds.left {S : ST} (h : Bds S) : Bds (u9 S) := { h with c0 := (zaC h).1, c1 := (zaC h).2 }
theorem Bds.pic' {S : ST} {f : PF} (h : Bds S) : Bds { S with pic := f } := { h with }
theorem Bds.late' {S : ST} {b : Bool} (h : Bds S) : Bds { S with late := b } := { h with }
theorem Bds.roll {S : ST} {a s : Int} (h : Bds S) : Bds (u7 a s S) := { h with }
theorem Bds.cells {S : ST} {s : Int} (h : Bds S) : Bds (uP s S) := { h with }
theorem Bds.lineE {S : ST} (h : Bds S) : Bds (lineE S) := by
  have h1 := h.left
  unfold L2.lineE
  dsimp only
  split
  · exact h1.roll
  · split
    · rename_i e1 e2
      exact { h1 with r0 := by have := h1.r0; simp only at *; omega, r1 := by simp only at *; omega }
    · exact h1
end L2
namespace L2
open PySem PySem.Spec PyProof.Rows
noncomputable def pA (S : ST) : ST := if S.late = true ∧ S.wrap = true then lineE S else S
noncomputable def pB (S : ST) : ST := { S with late := false }
noncomputable def pC (S : ST) : ST := if S.putting = true then uP (-1) S else S
noncomputable def pD (c : Str) (S : ST) : ST := { S with pic := setF S.pic S.row.toNat S.col.toNat (c, S.ink) }
noncomputable def pE (c : Str) (S : ST) : ST := { S with last := .str c }
noncomputable def pF (S : ST) : ST := if S.col < eR S then { S with col := S.col + 1 } else { S with late := S.wrap }
theorem vO (c : Str) (S : ST) : qa c S = pF (pE c (pD c (pC (pB (pA S))))) := rfl
theorem Bds.pA {S : ST} (h : Bds S) : Bds (pA S) := by unfold L2.pA; split; exact h.lineE; exact h
theorem Bds.pB {S : ST} (h : Bds S) : Bds (pB S) := h.late'
theorem Bds.pC {S : ST} (h : Bds S) : Bds (pC S) := by unfold L2.pC; split; exact h.cells; exact h
theorem Bds.pD {c : Str} {S : ST} (h : Bds S) : Bds (pD c S) := h.pic'
theorem Bds.pE {c : Str} {S : ST} (h : Bds S) : Bds (pE c S) := { h with }
theorem Bds.pF {S : ST} (h : Bds S) : Bds (pF S) := by
  unfold L2.pF
  split
  · rename_i e
    have := qe h
    exact { h with c0 := by have := h.c0; simp only; omega, c1 := by simp only; omega }
  · exact h.late'
end L2
namespace L2
open PySem
theorem zem {a0 a1 a2 v : W} : xh (Str.ofString "row") v [(Str.ofString "picture", a0), (Str.ofString "wide", a1), (Str.ofString "high", a2)] = [(Str.ofString "picture", a0), (Str.ofString "wide", a1), (Str.ofString "high", a2)] ++ [(Str.ofString "row", v)] := rfl
theorem zen {a0 a1 a2 a3 v : W} : xh (Str.ofString "column") v [(Str.ofString "picture", a0), (Str.ofString "wide", a1), (Str.ofString "high", a2), (Str.ofString "row", a3)] = [(Str.ofString "picture", a0), (Str.ofString "wide", a1), (Str.ofString "high", a2), (Str.ofString "row", a3)] ++ [(Str.ofString "column", v)] := rfl
theorem zeo {a0 a1 a2 a3 a4 v : W} : xh (Str.ofString "late") v [(Str.ofString "picture", a0), (Str.ofString "wide", a1), (Str.ofString "high", a2), (Str.ofString "row", a3), (Str.ofString "column", a4)] = [(Str.ofString "picture", a0), (Str.ofString "wide", a1), (Str.ofString "high", a2), (Str.ofString "row", a3), (Str.ofString "column", a4)] ++ [(Str.ofString "late", v)] := rfl
theorem zep {a0 a1 a2 a3 a4 a5 v : W} : xh (Str.ofString "ink") v [(Str.ofString "picture", a0), (Str.ofString "wide", a1), (Str.ofString "high", a2), (Str.ofString "row", a3), (Str.ofString "column", a4), (Str.ofString "late", a5)] = [(Str.ofString "picture", a0), (Str.ofString "wide", a1), (Str.ofString "high", a2), (Str.ofString "row", a3), (Str.ofString "column", a4), (Str.ofString "late", a5)] ++ [(Str.ofString "ink", v)] := rfl
theorem zeq {a0 a1 a2 a3 a4 a5 a6 v : W} : xh (Str.ofString "wrap") v [(Str.ofString "picture", a0), (Str.ofString "wide", a1), (Str.ofString "high", a2), (Str.ofString "row", a3), (Str.ofString "column", a4), (Str.ofString "late", a5), (Str.ofString "ink", a6)] = [(Str.ofString "picture", a0), (Str.ofString "wide", a1), (Str.ofString "high", a2), (Str.ofString "row", a3), (Str.ofString "column", a4), (Str.ofString "late", a5), (Str.ofString "ink", a6)] ++ [(Str.ofString "wrap", v)] := rfl
theorem zer {a0 a1 a2 a3 a4 a5 a6 a7 v : W} : xh (Str.ofString "putting") v [(Str.ofString "picture", a0), (Str.ofString "wide", a1), (Str.ofString "high", a2), (Str.ofString "row", a3), (Str.ofString "column", a4), (Str.ofString "late", a5), (Str.ofString "ink", a6), (Str.ofString "wrap", a7)] = [(Str.ofString "picture", a0), (Str.ofString "wide", a1), (Str.ofString "high", a2), (Str.ofString "row", a3), (Str.ofString "column", a4), (Str.ofString "late", a5), (Str.ofString "ink", a6), (Str.ofString "wrap", a7)] ++ [(Str.ofString "putting", v)] := rfl
theorem zes {a0 a1 a2 a3 a4 a5 a6 a7 a8 v : W} : xh (Str.ofString "home") v [(Str.ofString "picture", a0), (Str.ofString "wide", a1), (Str.ofString "high", a2), (Str.ofString "row", a3), (Str.ofString "column", a4), (Str.ofString "late", a5), (Str.ofString "ink", a6), (Str.ofString "wrap", a7), (Str.ofString "putting", a8)] = [(Str.ofString "picture", a0), (Str.ofString "wide", a1), (Str.ofString "high", a2), (Str.ofString "row", a3), (Str.ofString "column", a4), (Str.ofString "late", a5), (Str.ofString "ink", a6), (Str.ofString "wrap", a7), (Str.ofString "putting", a8)] ++ [(Str.ofString "home", v)] := rfl
theorem zdR {a0 a1 a2 a3 a4 a5 a6 a7 a8 a9 v : W} : xh (Str.ofString "top") v [(Str.ofString "picture", a0), (Str.ofString "wide", a1), (Str.ofString "high", a2), (Str.ofString "row", a3), (Str.ofString "column", a4), (Str.ofString "late", a5), (Str.ofString "ink", a6), (Str.ofString "wrap", a7), (Str.ofString "putting", a8), (Str.ofString "home", a9)] = [(Str.ofString "picture", a0), (Str.ofString "wide", a1), (Str.ofString "high", a2), (Str.ofString "row", a3), (Str.ofString "column", a4), (Str.ofString "late", a5), (Str.ofString "ink", a6), (Str.ofString "wrap", a7), (Str.ofString "putting", a8), (Str.ofString "home", a9)] ++ [(Str.ofString "top", v)] := rfl
theorem zdS {a0 a1 a2 a3 a4 a5 a6 a7 a8 a9 a10 v : W} : xh (Str.ofString "bottom") v [(Str.ofString "picture", a0), (Str.ofString "wide", a1), (Str.ofString "high", a2), (Str.ofString "row", a3), (Str.ofString "column", a4), (Str.ofString "late", a5), (Str.ofString "ink", a6), (Str.ofString "wrap", a7), (Str.ofString "putting", a8), (Str.ofString "home", a9), (Str.ofString "top", a10)] = [(Str.ofString "picture", a0), (Str.ofString "wide", a1), (Str.ofString "high", a2), (Str.ofString "row", a3), (Str.ofString "column", a4), (Str.ofString "late", a5), (Str.ofString "ink", a6), (Str.ofString "wrap", a7), (Str.ofString "putting", a8), (Str.ofString "home", a9), (Str.ofString "top", a10)] ++ [(Str.ofString "bottom", v)] := rfl
theorem zdT {a0 a1 a2 a3 a4 a5 a6 a7 a8 a9 a10 a11 v : W} : xh (Str.ofString "left") v [(Str.ofString "picture", a0), (Str.ofString "wide", a1), (Str.ofString "high", a2), (Str.ofString "row", a3), (Str.ofString "column", a4), (Str.ofString "late", a5), (Str.ofString "ink", a6), (Str.ofString "wrap", a7), (Str.ofString "putting", a8), (Str.ofString "home", a9), (Str.ofString "top", a10), (Str.ofString "bottom", a11)] = [(Str.ofString "picture", a0), (Str.ofString "wide", a1), (Str.ofString "high", a2), (Str.ofString "row", a3), (Str.ofString "column", a4), (Str.ofString "late", a5), (Str.ofString "ink", a6), (Str.ofString "wrap", a7), (Str.ofString "putting", a8), (Str.ofString "home", a9), (Str.ofString "top", a10), (Str.ofString "bottom", a11)] ++ [(Str.ofString "left", v)] := rfl
theorem zdU {a0 a1 a2 a3 a4 a5 a6 a7 a8 a9 a10 a11 a12 v : W} : xh (Str.ofString "right") v [(Str.ofString "picture", a0), (Str.ofString "wide", a1), (Str.ofString "high", a2), (Str.ofString "row", a3), (Str.ofString "column", a4), (Str.ofString "late", a5), (Str.ofString "ink", a6), (Str.ofString "wrap", a7), (Str.ofString "putting", a8), (Str.ofString "home", a9), (Str.ofString "top", a10), (Str.ofString "bottom", a11), (Str.ofString "left", a12)] = [(Str.ofString "picture", a0), (Str.ofString "wide", a1), (Str.ofString "high", a2), (Str.ofString "row", a3), (Str.ofString "column", a4), (Str.ofString "late", a5), (Str.ofString "ink", a6), (Str.ofString "wrap", a7), (Str.ofString "putting", a8), (Str.ofString "home", a9), (Str.ofString "top", a10), (Str.ofString "bottom", a11), (Str.ofString "left", a12)] ++ [(Str.ofString "right", v)] := rfl
theorem zdV {a0 a1 a2 a3 a4 a5 a6 a7 a8 a9 a10 a11 a12 a13 v : W} : xh (Str.ofString "stops") v [(Str.ofString "picture", a0), (Str.ofString "wide", a1), (Str.ofString "high", a2), (Str.ofString "row", a3), (Str.ofString "column", a4), (Str.ofString "late", a5), (Str.ofString "ink", a6), (Str.ofString "wrap", a7), (Str.ofString "putting", a8), (Str.ofString "home", a9), (Str.ofString "top", a10), (Str.ofString "bottom", a11), (Str.ofString "left", a12), (Str.ofString "right", a13)] = [(Str.ofString "picture", a0), (Str.ofString "wide", a1), (Str.ofString "high", a2), (Str.ofString "row", a3), (Str.ofString "column", a4), (Str.ofString "late", a5), (Str.ofString "ink", a6), (Str.ofString "wrap", a7), (Str.ofString "putting", a8), (Str.ofString "home", a9), (Str.ofString "top", a10), (Str.ofString "bottom", a11), (Str.ofString "left", a12), (Str.ofString "right", a13)] ++ [(Str.ofString "stops", v)] := rfl
theorem zaD {a0 a1 a2 a3 a4 a5 a6 a7 a8 a9 a10 a11 a12 a13 a14 v : W} : xh (Str.ofString "kept") v [(Str.ofString "picture", a0), (Str.ofString "wide", a1), (Str.ofString "high", a2), (Str.ofString "row", a3), (Str.ofString "column", a4), (Str.ofString "late", a5), (Str.ofString "ink", a6), (Str.ofString "wrap", a7), (Str.ofString "putting", a8), (Str.ofString "home", a9), (Str.ofString "top", a10), (Str.ofString "bottom", a11), (Str.ofString "left", a12), (Str.ofString "right", a13), (Str.ofString "stops", a14)] = [(Str.ofString "picture", a0), (Str.ofString "wide", a1), (Str.ofString "high", a2), (Str.ofString "row", a3), (Str.ofString "column", a4), (Str.ofString "late", a5), (Str.ofString "ink", a6), (Str.ofString "wrap", a7), (Str.ofString "putting", a8), (Str.ofString "home", a9), (Str.ofString "top", a10), (Str.ofString "bottom", a11), (Str.ofString "left", a12), (Str.ofString "right", a13), (Str.ofString "stops", a14)] ++ [(Str.ofString "kept", v)] := rfl
theorem zdW {a0 a1 a2 a3 a4 a5 a6 a7 a8 a9 a10 a11 a12 a13 a14 a15 v : W} : xh (Str.ofString "last") v [(Str.ofString "picture", a0), (Str.ofString "wide", a1), (Str.ofString "high", a2), (Str.ofString "row", a3), (Str.ofString "column", a4), (Str.ofString "late", a5), (Str.ofString "ink", a6), (Str.ofString "wrap", a7), (Str.ofString "putting", a8), (Str.ofString "home", a9), (Str.ofString "top", a10), (Str.ofString "bottom", a11), (Str.ofString "left", a12), (Str.ofString "right", a13), (Str.ofString "stops", a14), (Str.ofString "kept", a15)] = [(Str.ofString "picture", a0), (Str.ofString "wide", a1), (Str.ofString "high", a2), (Str.ofString "row", a3), (Str.ofString "column", a4), (Str.ofString "late", a5), (Str.ofString "ink", a6), (Str.ofString "wrap", a7), (Str.ofString "putting", a8), (Str.ofString "home", a9), (Str.ofString "top", a10), (Str.ofString "bottom", a11), (Str.ofString "left", a12), (Str.ofString "right", a13), (Str.ofString "stops", a14), (Str.ofString "kept", a15)] ++ [(Str.ofString "last", v)] := rfl
theorem U2 {a0 a1 a2 : W} : List.lookup (Str.ofString "begin") [(Str.ofString "picture", a0), (Str.ofString "wide", a1), (Str.ofString "high", a2)] = none := rfl
theorem U3 {a0 a1 a2 a3 a4 a5 a6 a7 a8 a9 a10 : W} : List.lookup (Str.ofString "high") [(Str.ofString "picture", a0), (Str.ofString "wide", a1), (Str.ofString "high", a2), (Str.ofString "row", a3), (Str.ofString "column", a4), (Str.ofString "late", a5), (Str.ofString "ink", a6), (Str.ofString "wrap", a7), (Str.ofString "putting", a8), (Str.ofString "home", a9), (Str.ofString "top", a10)] = some a2 := rfl
theorem U4 {a0 a1 a2 a3 a4 a5 a6 a7 a8 a9 a10 a11 a12 : W} : List.lookup (Str.ofString "wide") [(Str.ofString "picture", a0), (Str.ofString "wide", a1), (Str.ofString "high", a2), (Str.ofString "row", a3), (Str.ofString "column", a4), (Str.ofString "late", a5), (Str.ofString "ink", a6), (Str.ofString "wrap", a7), (Str.ofString "putting", a8), (Str.ofString "home", a9), (Str.ofString "top", a10), (Str.ofString "bottom", a11), (Str.ofString "left", a12)] = some a1 := rfl
theorem U5 {a0 a1 a2 a3 a4 a5 a6 a7 a8 a9 a10 a11 a12 a13 : W} : List.lookup (Str.ofString "wide") [(Str.ofString "picture", a0), (Str.ofString "wide", a1), (Str.ofString "high", a2), (Str.ofString "row", a3), (Str.ofString "column", a4), (Str.ofString "late", a5), (Str.ofString "ink", a6), (Str.ofString "wrap", a7), (Str.ofString "putting", a8), (Str.ofString "home", a9), (Str.ofString "top", a10), (Str.ofString "bottom", a11), (Str.ofString "left", a12), (Str.ofString "right", a13)] = some a1 := rfl
theorem zet { v : W} : xh (Str.ofString "picture") v [] = [] ++ [(Str.ofString "picture", v)] := rfl
theorem zeu {a0 v : W} : xh (Str.ofString "wide") v [(Str.ofString "picture", a0)] = [(Str.ofString "picture", a0)] ++ [(Str.ofString "wide", v)] := rfl
theorem zev {a0 a1 v : W} : xh (Str.ofString "high") v [(Str.ofString "picture", a0), (Str.ofString "wide", a1)] = [(Str.ofString "picture", a0), (Str.ofString "wide", a1)] ++ [(Str.ofString "high", v)] := rfl
end L2
namespace L2
open PySem PySem.Spec PyProof.Rows
theorem Ji {κ α : Type} [DecidableEq κ] {kvs : List (κ × α)} {k : κ} {v : α} (h : k ∉ kvs.map (·.1)) : yV kvs k v = kvs ++ [(k, v)] := by
  unfold yV
  rw [if_neg]
  intro e
  rw [List.any_eq_true] at e
  obtain ⟨kv, h1, h2⟩ := e
  exact h (List.mem_map.mpr ⟨kv, h1, by simpa using h2⟩)
theorem ZF {κ α : Type} [DecidableEq κ] : ∀ {more kvs : List (κ × α)}, ((kvs ++ more).map (·.1)).Nodup → ub kvs more = kvs ++ more
  | [], kvs, _ => by simp [ub]
  | (k, v) :: more, kvs, h => by
    have hk : k ∉ kvs.map (·.1) := by
      intro m
      rw [List.map_append, List.nodup_append] at h
      exact h.2.2 k m k (by simp) rfl
    show ub (yV kvs k v) more = _
    rw [Ji hk, ZF (by simpa using h)]
    simp
theorem r3w {w : Nat} (h1 : 1 ≤ w) (h2 : w ≤ 24) : R3 4 w 4 ((w - 1) / 4) := by
  have e : ∀ n : _root_.Fin 25, 1 ≤ n.val → (4 : Int) ≠ 0 ∧ Builtin.Range.small 4 ((n.val : Nat) : Int) 4 = true ∧ Builtin.Range.rangeSize 4 ((n.val : Nat) : Int) 4 = (((n.val - 1) / 4 : Nat)) ∧ Builtin.divisionGoesByPylong (((n.val : Nat) : Int) - 4) 4 = false := by decide +kernel
  exact e ⟨w, by omega⟩ h1
theorem KF {w : Nat} (h2 : w ≤ 24) : ((qK w).map (·.1)).Nodup := by
  have e : ∀ n : _root_.Fin 25, ((List.range ((n.val - 1) / 4)).map fun i => (Sum.inl (4 + (i : Nat) * 4 : Int) : Key)).Nodup := by decide +kernel
  have := e ⟨w, by omega⟩
  unfold qK
  rw [List.map_map]
  exact this
noncomputable def Jj (K : PySem.W.Frag) : List V → Hp → VK → Prop := QZ K
theorem zbB {X : Cx} {K : PySem.W.Frag} (hK : X.K = K) (hc : X.calm = true) : xo X (.type "dict") (Jj K) := by subst hK; exact UE hc
noncomputable def vC : List PyData → Option (List (Key × PyData))
  | [] => some []
  | .tuple [.int i, v] :: r => (vC r).map ((Sum.inl i, v) :: ·)
  | .tuple [.str i, v] :: r => (vC r).map ((Sum.inr i, v) :: ·)
  | _ => none
theorem jc {K : PySem.W.Frag} {Γ : Gh} : ∀ {ds : List PyData} {kvs : List (Key × PyData)} {vs : List V}, vC ds = some kvs → Reps K Γ.Z ds vs → ∃ us : List (Key × V), vt K Γ.Z vs us ∧ xf K Γ (kvs.map fun kv => (kv.1, W.d kv.2)) us
  | [], kvs, vs, e, h => by
    cases e
    rw [show vs = [] from h]
    exact ⟨[], .nil, .nil⟩
  | d :: ds, kvs, vs, e, h => by
    obtain ⟨x, r, rfl, h1, h2⟩ := h
    unfold vC at e
    split at e
    · rename_i heq; cases heq
    · rename_i i v r' heq
      cases heq
      cases hp : vC ds with
      | none => rw [hp] at e; cases e
      | some k2 =>
        rw [hp] at e
        cases e
        obtain ⟨us, q1, q2⟩ := jc hp h2
        obtain ⟨a, xs, rfl, s1, y1, r1, e1, s2, y2, r2, e2, s3, e3⟩ := h1
        subst e1 e2
        rw [show r2 = [] from e3] at s1
        rw [show y1 = .int i from s2] at s1
        exact ⟨(Sum.inl i, y2) :: us, .cons ⟨a, rfl, s1⟩ q1, .cons ⟨rfl, s3⟩ q2⟩
    · rename_i i v r' heq
      cases heq
      cases hp : vC ds with
      | none => rw [hp] at e; cases e
      | some k2 =>
        rw [hp] at e
        cases e
        obtain ⟨us, q1, q2⟩ := jc hp h2
        obtain ⟨a, xs, rfl, s1, y1, r1, e1, s2, y2, r2, e2, s3, e3⟩ := h1
        subst e1 e2
        rw [show r2 = [] from e3] at s1
        rw [show y1 = .str i from s2] at s1
        exact ⟨(Sum.inr i, y2) :: us, .cons ⟨a, rfl, s1⟩ q1, .cons ⟨rfl, s3⟩ q2⟩
    · cases e
noncomputable def Jk : List W → OM → WK → Prop := fun xs O R => ∃ w ds kvs, xs = [w] ∧ yS O w = some (ds.map .d) ∧ vC ds = some kvs ∧ kvs.length ≤ 1000 ∧ ∀ p, O p = none → R (.own p) (updO O p (.dK (ub [] (kvs.map fun kv => (kv.1, .d kv.2)))))
theorem zbC {K : PySem.W.Frag} : RefC K (Jj K) Jk := by
  rintro Γ O H xs vs S rs Q R ⟨w, ds, kvs, rfl, e, ep, hl, h⟩ k
  cases rs with
  | cons rx t =>
    cases t
    obtain ⟨a, ys, rfl, q1, q2⟩ := xM S rx e
    obtain ⟨us, p1, p2⟩ := jc ep (yG q2)
    refine ⟨a, ys, us, rfl, q1, p1.keep fun b xs hb => hb.same S.z, by rw [← Paired.length p2, List.length_map]; exact hl, fun p hp => ?_⟩
    have S' := S.newO hp (o := .dK (xV [] us)) (oo := .dK _) (by intro _ h; cases h) ⟨_, zX, qj p2 .nil⟩
    exact k _ _ _ _ _ (Le.refl _) S' xW (h p (S.free hp).2.1)
end L2
namespace L2
open PySem PySem.Spec PyProof.Rows
theorem ZG {acc : Array Value} {n : Nat} {f : Nat → Int} (h : acc.size = n) (g : ∀ j v, acc[j]? = some v → ∃ t, v = Value.int (f j) t) : Vals ((List.range n).map fun j => V.int (f j)) acc.toList := by
  have key : ∀ (l : List Value) (k : Nat), (∀ j v, l[j]? = some v → ∃ t, v = Value.int (f (k + j)) t) → Vals ((List.range' k l.length).map fun j => V.int (f j)) l := by
    intro l
    induction l with
    | nil => intro k _; exact .nil
    | cons v l ih =>
      intro k hk
      obtain ⟨t, e⟩ := hk 0 v rfl
      refine .cons ⟨t, by rw [e]; rfl⟩ (ih (k + 1) fun j u hu => ?_)
      obtain ⟨t', e'⟩ := hk (j + 1) u (by simpa using hu)
      exact ⟨t', by rw [e']; congr 2; omega⟩
  have h1 := key acc.toList 0 (fun j v hj => by rw [Nat.zero_add]; exact g j v (by rw [← Array.getElem?_toList]; exact hj))
  rw [List.range_eq_range', ← h]
  simpa using h1
section
variable {X : Cx} {K : PySem.W.Frag}
noncomputable def zdg : List V → Hp → VK → Prop := fun xs H Q => ∃ a kvs, ∃ ns : List Int, xs = [.ref a] ∧ H a = some (.dK kvs) ∧ kvs.map (·.1) = ns.map (Sum.inl : Int → Key) ∧ ns.length < 64 ∧ ∀ p, H p = none → Q (.ref p) (upd H p (.lst (ns.map V.int)))
theorem zdh (hc : X.calm = true) : xo X (.type "list") zdg := by
  intro pins s σ H xs us Q I r h
  obtain ⟨a, kvs, ns, rfl, e, hk, hl, q⟩ := h
  obtain ⟨u, rfl, ru⟩ := r.one
  cases ru
  obtain ⟨z, hd, vs, rel, dd⟩ := Zj I.hok e
  obtain ⟨ep, hat⟩ := dd.dictAt
  have kk := rel.keys
  rw [hk] at kk
  have hlen : ns.length = vs.length := by have := congrArg List.length kk; simpa using this
  refine PySem.W.kdl_call (PySem.W.kdl_dict (knd := yT X.prog X.w) (kvs := vs) (ep := ep) hd) (I.ok.hd hc) hat (by rw [sizeLine_eq]; omega) fun h' tk acc c hk' hD hacc => ?_
  have hv : Vals (ns.map V.int) acc.toList := by
    have h1 := ZG (acc := acc) (n := ns.length) (f := fun j => ns.getD j 0) (by rw [hacc.1, hlen]) fun j v hj => by
      obtain ⟨k, x, hx, hkv⟩ := hacc.2 j v hj
      have h2 : (vs.map (·.1))[j]? = some k := by rw [List.getElem?_map, hx]; rfl
      rw [← kk, List.getElem?_map] at h2
      cases hn : ns[j]? with
      | none => rw [hn] at h2; cases h2
      | some i =>
        rw [hn] at h2
        have h3 : (Sum.inl i : Key) = k := Option.some.inj h2
        subst h3
        rcases xn (k := Sum.inl i) (show qP (Sum.inl i) v = true from hkv) with ⟨i', t, e1, e2⟩ | ⟨x', t, e1, e2⟩
        · cases e1
          exact ⟨t, by rw [e2, List.getD_eq_getElem?_getD, hn]; rfl⟩
        · cases e1
    have e2 : ((List.range ns.length).map fun j => V.int (ns.getD j 0)) = ns.map V.int := by
      apply List.ext_getElem
      · simp
      · intro i h1 h2
        simp at h1 h2 ⊢
        rw [List.getElem?_eq_getElem h2]; rfl
    rw [e2] at h1
    exact h1
  refine ⟨.ref s.heap.objs.size, _, I.laid (a := s.heap.objs.size) (o := .lst (ns.map V.int)) (t' := tk) hk' (Nat.le_refl _) ⟨by rw [List.length_map, sizeLine_eq]; omega, acc.toList, c, hv, by rw [Array.toArray_toList]; exact hD⟩, rfl, q _ (I.hok.fresh (Nat.le_refl _))⟩
noncomputable def U6 (p : Addr) (i j c : Int) : HO := .ext fun h => ∃ t u v, IsRange h p i j c t u v
noncomputable def zaE (ta : TA) : TE := fun σ H Q => ta σ H fun vs H1 => ∃ (i j c : Int) (n : Nat), vs = [.int i, .int j, .int c] ∧ R3 i j c n ∧ ∀ p, H1 p = none → Q (.ref p) (upd H1 p (U6 p i j c))
theorem zbD {a b c : Expr} {ta : TA} {p pos : Pos} (hg : Gl X "range") (hm : X.mg "range" = none) (ha : PA X [a, b, c] ta) (hs : starEach [a, b, c] X.env = (false, eval a X.env) :: starEach [b, c] X.env := by rfl)
    (hs2 : (backTo pos (starEach [b, c] X.env)).any (·.1) = false := by rfl) : PE X (.Call (.Name "range" p) [a, b, c] [] pos) (zaE ta) := by
  intro pins s σ H R I h
  refine Call_ (uA I hg hm boot_range (PyProof.Rows.callWith_type1 (thn (ha pos pins s σ H _ I h) fun us s1 ⟨vs, H1, I1, r1, q1⟩ => ?_) hs hs2))
  obtain ⟨i, j, k, n, e, ⟨k0, sm, sz, dv⟩, q⟩ := q1
  subst e
  cases r1 with
  | cons r rr =>
    cases rr with
    | cons r' rr =>
      cases rr with
      | cons r2 rr =>
        cases rr
        obtain ⟨t, rfl⟩ := r
        obtain ⟨t', rfl⟩ := r'
        obtain ⟨t2, rfl⟩ := r2
        refine call_range_3 k0 ?_ (.inl dv)
        have hn : (s1.heap.push { cls := .type "range", data := .fields #[.int i t, .int j t', .int k t2] }).get? s1.heap.objs.size = some { cls := .type "range", data := .fields #[.int i t, .int j t', .int k t2] } := Heap.get?_push_size _ rfl
        exact ⟨.ref s1.heap.objs.size, _, I1.laid (o := U6 s1.heap.objs.size i j k) (t' := s1.toks) (fun b o e => Heap.get?_push_of_some _ e) (Nat.le_refl _) ⟨⟨t, t', t2, hn⟩, ⟨_, hn⟩, fun h1 h2 ⟨t, u, v, hr⟩ hh => ⟨t, u, v, hh _ hr⟩⟩, rfl, q _ (I1.hok.fresh (Nat.le_refl _))⟩
noncomputable def zdi : List V → Hp → VK → Prop := fun xs H Q => ∃ p i j c n, xs = [.ref p] ∧ H p = some (U6 p i j c) ∧ R3 i j c n ∧ n ≤ 1000 ∧ ∀ l, H l = none → Q (.ref l) (upd H l (.lst ((List.range n).map fun (k : Nat) => V.int (i + k * c))))
theorem zdj (hc : X.calm = true) : xo X (.type "list") zdi := by
  intro pins s σ H xs us Q I r h
  obtain ⟨p, i, j, c, n, rfl, e, ⟨k0, sm, sz, dv⟩, hl, q⟩ := h
  obtain ⟨u, rfl, ru⟩ := r.one
  cases ru
  obtain ⟨⟨t, u, v, hr⟩, _, _⟩ := I.hok _ _ e
  refine call_list_range (I.ok.hd hc) hr sm sz (by omega) fun h' tk acc c' hk hD hacc => ?_
  refine ⟨.ref s.heap.objs.size, _, I.laid (a := s.heap.objs.size) (o := .lst ((List.range n).map fun (k : Nat) => V.int (i + k * c))) (t' := tk) hk (Nat.le_refl _) ⟨by simp; exact uy hl, acc.toList, c', ZG hacc.1 hacc.2, by rw [Array.toArray_toList]; exact hD⟩, rfl, q _ (I.hok.fresh (Nat.le_refl _))⟩
noncomputable def zaF (K : PySem.W.Frag) : List V → Hp → VK → Prop := zae K
theorem zbE (hK : X.K = K) : xo X (.builtin "sorted") (zaF K) := by subst hK; exact Xm
noncomputable def Jl (T : TAW) : TEW := fun ρ O R => T ρ O fun ws O1 => ∃ (i j c : Int) (n : Nat), ws = [.d (.int i), .d (.int j), .d (.int c)] ∧ R3 i j c n ∧ n ≤ 1000 ∧ R (.d (.list ((List.range n).map fun (k : Nat) => .int (i + k * c)))) O1
theorem ur {Z : Hp} : ∀ ns : List Int, Reps K Z (ns.map PyData.int) (ns.map V.int)
  | [] => rfl
  | n :: ns => ⟨_, _, rfl, rfl, ur ns⟩
theorem Yw {t : TA} {T : TAW} (h : xN K t T) : RefE K (tCB zdi (kd (zaE t) jz)) (Jl T) := by
  intro Γ O H ρ σ S r Q R hT k
  refine h _ _ _ _ _ S r _ _ hT fun Γ1 O1 H1 ws vs l1 S1 rs h1 => ?_
  obtain ⟨i, j, c, n, rfl, r3, hl, h1⟩ := h1
  cases rs with
  | cons rx t => cases t with
    | cons ry t => cases t with
      | cons rz t =>
        cases t
        refine ⟨i, j, c, n, by rw [show _ = V.int i from rx, show _ = V.int j from ry, show _ = V.int c from rz], r3, fun p hp => ?_⟩
        refine ⟨p, i, j, c, n, rfl, zX, r3, hl, fun l hl' => ?_⟩
        have S2 := S1.junk hp (U6 p i j c)
        have hr := ur (K := K) (Z := Γ1.Z) ((List.range n).map fun (k : Nat) => i + k * c)
        rw [List.map_map, List.map_map] at hr
        obtain ⟨Γ', l', S', r'⟩ := qI S2 hr hl'
        exact k _ _ _ _ _ (l1.trans l') S' r' h1
noncomputable def zdk : List W → OM → WK → Prop := fun xs O R => ∃ a kvs, ∃ ns : List Int, xs = [.own a] ∧ O a = some (.dK kvs) ∧ kvs.map (·.1) = ns.map (Sum.inl : Int → Key) ∧ ns.length < 64 ∧ R (.d (.list (ns.map .int))) O
theorem U7 {Γ : Gh} {kvs : List (Key × W)} {vs : List (Key × V)} (h : xf K Γ kvs vs) : kvs.map (·.1) = vs.map (·.1) := by
  unfold xf at h
  induction h with
  | nil => rfl
  | cons a b ih => rw [List.map_cons, List.map_cons, a.1, ih]
theorem zdX : RefC K zdg zdk := by
  rintro Γ O H xs vs S rs Q R ⟨a, kvs, ns, rfl, ho, hk, hl, h⟩ k
  cases rs with
  | cons rx t =>
    cases t
    obtain ⟨_, us, q1, q2⟩ := S.o _ _ ho
    refine ⟨a, us, ns, by rw [show _ = V.ref a from rx], q1, by rw [← U7 q2]; exact hk, hl, fun p hp => ?_⟩
    obtain ⟨Γ', l', S', r'⟩ := qI S (ur ns) hp
    exact k _ _ _ _ _ l' S' r' h
noncomputable def zaG : List W → OM → WK → Prop := fun xs O R => ∃ w, ∃ ns : List Int, xs = [w] ∧ yS O w = some ((ns.map .int).map .d) ∧ ns.length < 64 ∧ R (.d (.list ((srt ns).map .int))) O
theorem jK {Z : Hp} : ∀ {ns : List Int} {vs : List V}, Reps K Z (ns.map PyData.int) vs → vs = ns.map V.int
  | [], _, h => h
  | n :: ns, _, h => by
    obtain ⟨x, r, rfl, h1, h2⟩ := h
    rw [show x = V.int n from h1, jK h2]
    rfl
theorem zdY : RefC K (zaF K) zaG := by
  rintro Γ O H xs vs S rs Q R ⟨w, ns, rfl, e, hl, h⟩ k
  cases rs with
  | cons rx t =>
    cases t
    obtain ⟨a, us, rfl, q1, q2⟩ := xM S rx e
    have hu := jK (yG q2)
    subst hu
    refine ⟨a, ns, rfl, q1, hl, fun p hp => ?_⟩
    obtain ⟨Γ', l', S', r'⟩ := qI S (ur (srt ns)) hp
    exact k _ _ _ _ _ l' S' r' h
end
end L2
namespace L2
open PySem PySem.Spec PyProof.Rows
structure OwnAt (O : OM) (d q : Addr) (S : ST) : Prop where
  d : O d = some (.dK (ownW q S))
  q : O q = some (.grid (genG S.h S.w S.pic))
noncomputable def ownW0 (q : Addr) (S : ST) : List (Key × W) := (ownW q S).take 13
noncomputable def PicOk (S : ST) : Prop := ∀ i j, i < S.h → j < S.w → okC (S.pic i j)
noncomputable def InWin (S : ST) : Prop := S.home = true → S.top ≤ S.row ∧ S.row ≤ S.bottom ∧ S.left ≤ S.col ∧ S.col ≤ S.right
section
variable {O O' : OM} {d q : Addr} {S : ST}
theorem OwnAt.dq (s : OwnAt O d q S) : d ≠ q := neW s.d s.q (by intro h; cases h)
theorem OwnAt.fld (s : OwnAt O d q S) {S' : ST} (hw : S'.w = S.w) (hh : S'.h = S.h) (hp : S'.pic = S.pic) : OwnAt (updO O d (.dK (ownW q S'))) d q S' :=
  ⟨zn, by rw [zi (Ne.symm s.dq), hw, hh, hp]; exact s.q⟩
theorem OwnAt.pic (s : OwnAt O d q S) {f : PF} : OwnAt (updO O q (.grid (genG S.h S.w f))) d q { S with pic := f } :=
  ⟨by rw [zi s.dq]; exact s.d, zn⟩
theorem OwnAt.keep (s : OwnAt O d q S) {y z : Addr} (b : But O O' y z) (h1 : d ≠ y) (h2 : d ≠ z) (h3 : q ≠ y) (h4 : q ≠ z) : OwnAt O' d q S :=
  ⟨by rw [b _ h1 h2]; exact s.d, by rw [b _ h3 h4]; exact s.q⟩
end
structure Both (O : OM) (C x dx p st kp d q : Addr) (S S' : ST) : Prop where
  s : StAt O C x dx p st kp S
  o : OwnAt O d q S'
  ds : d ≠ st
  pq : p ≠ q
section
variable {O O' : OM} {C x dx p st kp d q : Addr} {S S' S1 : ST}
theorem Both.dx' (b : Both O C x dx p st kp d q S S') : d ≠ x := neW b.o.d b.s.x (by intro h; cases h)
theorem Both.dp (b : Both O C x dx p st kp d q S S') : d ≠ p := neW b.o.d b.s.p (by intro h; cases h)
theorem Both.dk (b : Both O C x dx p st kp d q S S') : d ≠ kp := neW b.o.d b.s.kp (by intro h; cases h)
theorem Both.qx (b : Both O C x dx p st kp d q S S') : q ≠ x := neW b.o.q b.s.x (by intro h; cases h)
theorem Both.qs (b : Both O C x dx p st kp d q S S') : q ≠ st := neW b.o.q b.s.st (by intro h; cases h)
theorem Both.qk (b : Both O C x dx p st kp d q S S') : q ≠ kp := neW b.o.q b.s.kp (by intro h; cases h)
theorem Both.st' (b : Both O C x dx p st kp d q S S') (h : StAt O' C x dx p st kp S1) (k : But O O' x p) : Both O' C x dx p st kp d q S1 S' :=
  ⟨h, b.o.keep k b.dx' b.dp b.qx (Ne.symm b.pq), b.ds, b.pq⟩
theorem Both.ow' (b : Both O C x dx p st kp d q S S') (h : OwnAt O' d q S1) (k : But O O' d q) : Both O' C x dx p st kp d q S S1 :=
  ⟨b.s.keep k (Ne.symm b.dx') (Ne.symm b.qx) (Ne.symm b.dp) b.pq (Ne.symm b.ds) (Ne.symm b.qs) (Ne.symm b.dk) (Ne.symm b.qk), h, b.ds, b.pq⟩
end
noncomputable def XC : SpW := fun ws O R => ∃ c, ws = [.d (.int c)] ∧ Bt 1048600 c ∧ ∀ w h : Nat, 1 ≤ w → w ≤ 24 → 1 ≤ h → h ≤ 12 → R (.d (.tuple [.int w, .int h])) O
noncomputable def XD : SpW := fun ws O R => ∃ (c : Int) (w h : Nat), ws = [.d (.int c), .d (.int w), .d (.int h)] ∧ Bt 1048600 c ∧ w ≤ 24 ∧ h ≤ 12 ∧ ∀ (f : PF) p, (∀ i j, okC (f i j)) → O p = none → R (.own p) (updO O p (.grid (genG h w f)))
noncomputable def qL : SpW := fun ws O R => ∃ d q S, ws = [.own d] ∧ O d = some (.dK (ownW q S)) ∧ R (.d (.int (eR S))) O
noncomputable def kn : SpW := fun ws O R => ∃ d q S n, ws = [.own d, .d (.int n)] ∧ 0 ≤ n ∧ (O d = some (.dK (ownW q S)) ∨ O d = some (.dK (ownW0 q S))) ∧ 1 ≤ S.h ∧ 1 ≤ S.w ∧ ∀ S', (∃ r c, S' = { S with row := r, col := c }) → (Bds { S with row := 0, col := 0 } → Bds S' ∧ InWin S') → R (.d .none) (updO O d (.dK (ownW q S')))
noncomputable def Y1 (k : Int) : Int := if k = 1 then 64 else if k = 2 then 128 else 256
noncomputable def vW (i : Int) : W → Option PyData
  | .d (.int k) => if i / Y1 k % 2 = 1 then some (.int k) else none
  | _ => none
noncomputable def jd (i : Int) : List PyData := .int 0 :: (List.filterMap (vW i) [.d (.int 1), .d (.int 2), .d (.int 3)] ++ [.int (10 + i % 8), .int (20 + i / 8 % 8)])
theorem XE {i : Int} (h : Ink i) : (∀ n ∈ jd i, xq n) ∧ ∀ j, (jd i).foldl vM j = i := by
  obtain ⟨m, rfl⟩ : ∃ m : _root_.Fin 512, i = ((m.val : Nat) : Int) := ⟨⟨i.toNat, by have := h.1; have := h.2; omega⟩, by have := h.1; simp only; omega⟩
  have e : ∀ m : _root_.Fin 512, ((jd ((m.val : Nat) : Int)).tail).foldl vM 0 = ((m.val : Nat) : Int) := by decide +kernel
  refine ⟨fun n hn => ?_, fun j => ?_⟩
  · have h0 := h.1
    unfold jd at hn
    rcases List.mem_cons.mp hn with rfl | hn
    · exact ⟨by decide, by decide⟩
    · rcases List.mem_append.mp hn with hn | hn
      · obtain ⟨v, hv, e1⟩ := List.mem_filterMap.mp hn
        simp at hv
        rcases hv with rfl | rfl | rfl <;> simp only [vW] at e1 <;> split at e1 <;> cases e1 <;> exact ⟨by decide, by decide⟩
      · simp at hn
        rcases hn with rfl | rfl
        · exact ⟨by omega, by omega⟩
        · exact ⟨by omega, by omega⟩
  · have : (jd ((m.val : Nat) : Int)).foldl vM j = ((jd ((m.val : Nat) : Int)).tail).foldl vM 0 := rfl
    rw [this, e m]
noncomputable def Y2 : SpW := fun ws O R => ∃ i, ws = [.d (.int i)] ∧ Ink i ∧ R (.d (.tuple (jd i))) O
noncomputable def sGo (C : Addr) : SpW := fun ws O R => ∃ x dx p st kp d q S S', ws = [.own x, .own d] ∧ Both O C x dx p st kp d q S S' ∧ Bds S' ∧ InWin S' ∧ S.w = S'.w ∧ S.h = S'.h ∧ S.home = S'.home ∧ S.top = S'.top ∧ S.bottom = S'.bottom ∧ S.left = S'.left ∧ S.right = S'.right ∧
  ∀ O', Both O' C x dx p st kp d q { S with row := S'.row, col := S'.col, late := false } S' → But O O' x p → R (.d .none) O'
noncomputable def yQ (S : ST) : Prop := PicOk S ∧ SeqAt.shaped S.last = true ∧ PyData.eqv S.last S.last = true
structure Drawn (S : ST) : Prop where
  b : Bds S
  ok : PicOk S
  win : InWin S
  last : S.last = .none ∨ ∃ c, S.last = .str c ∧ S.pic S.row.toNat S.col.toNat = (c, S.ink)
  late : S.late = true → S.col = eR S ∧ S.last ≠ .none
theorem XF {c : Str} (h : PyData.strOk c = true) : SeqAt.shaped (.str c) = true ∧ PyData.eqv (.str c) (.str c) = true :=
  ⟨by simp [SeqAt.shaped, PyData.canLay0, PyData.depth, h], by simp [PyData.eqv]⟩
theorem Drawn.all {S : ST} (h : Drawn S) : yQ S := by
  refine ⟨h.ok, ?_⟩
  rcases h.last with e | ⟨c, e, e2⟩
  · rw [e]; exact ⟨rfl, rfl⟩
  · have h0 := h.ok S.row.toNat S.col.toNat (by have := h.b.r0; have := h.b.r1; omega) (by have := h.b.c0; have := h.b.c1; omega)
    rw [e2] at h0
    rw [e]
    exact XF h0
noncomputable def XG : SpW := fun ws O R => ∃ ns : List Int, ws = [.d (.list (ns.map .int))] ∧ (∀ n ∈ ns, Bt 1048590 n) ∧ ∀ d q S O', O d = none → O q = none → OwnAt O' d q S → Drawn S → (∀ b, b ≠ d → b ≠ q → O b ≠ none → O' b = O b) → R (.own d) O'
noncomputable def XH (C : Addr) : SpW := fun ws O R => ∃ d q S, ws = [.own d] ∧ OwnAt O d q S ∧ Drawn S ∧ ∀ x dx p st kp O', Both O' C x dx p st kp d q S S → (∀ b, b ≠ x → b ≠ p → b ≠ st → b ≠ kp → O b ≠ none → O' b = O b) → R (.own x) O'
noncomputable def kT (C : Addr) : SpW := fun ws O R => ∃ x dx p st kp d q S n, ws = [.own x, .own d, .d (.int n)] ∧ 0 ≤ n ∧ Both O C x dx p st kp d q S S ∧ Bds S ∧ yQ S ∧ ∀ S' O', Both O' C x dx p st kp d q S' S' → Bds S' → yQ S' → R (.d .none) O'
noncomputable def ZH (C : Addr) : SpW := fun ws O R => ∃ x dx p st kp d q S, ws = [.own x, .own d] ∧ Both O C x dx p st kp d q S S ∧ Bds S ∧ yQ S ∧ R (.d (.bool true)) O
noncomputable def zsA : Str := Str.ofString " !$&()*+,-./0123456789:;<=>?@ABCDEFGHIJKLMNOPQRSTUVWXYZ"
noncomputable def zsB : Str := Str.ofString "[]^_abcdefghijklmnopqrstuvwxyz{|}~"
theorem zdl : (zsA ++ zsB).length = 89 := by decide +kernel
theorem zbF : zsA.length + zsB.length ≤ sizeLine := by rw [sizeLine_eq]; decide +kernel
theorem zdZ : ∀ k : _root_.Fin 89, PyData.strOk ⟨#[(zsA ++ zsB).cps.toList.getD k.val 0]⟩ = true := by decide +kernel
theorem zd0 {k : Int} (h0 : 0 ≤ k) (h1 : k < 89) : atI (zsA ++ zsB).cps.toList k = some ((zsA ++ zsB).cps.toList.getD k.toNat 0) := by
  obtain ⟨n, rfl⟩ := Int.eq_ofNat_of_zero_le h0
  refine ut ?_
  have hl : (zsA ++ zsB).cps.toList.length = 89 := by decide +kernel
  rw [List.getD_eq_getElem?_getD]
  have : n < (zsA ++ zsB).cps.toList.length := by rw [hl]; omega
  simp [List.getElem?_eq_getElem this]
noncomputable def xU (c : Int) : PF := fun i j => (⟨#[(zsA ++ zsB).cps.toList.getD ((xT c 51 / 8 + 7 * (24 * (i : Int) + (j : Int))) % 89).toNat 0]⟩, xT c (60 + (24 * (i : Int) + (j : Int))) / 8 % 512)
theorem KG (c : Int) (i j : Nat) : okC (xU c i j) := by
  have := zdZ ⟨((xT c 51 / 8 + 7 * (24 * (i : Int) + (j : Int))) % 89).toNat, by omega⟩
  exact this
theorem Yx {h w : Nat} {f : PF} : genG (h + 1) w f = genG h w f ++ [(List.range w).map fun j => yE (f h j)] := by
  unfold genG
  rw [List.range_succ, List.map_append]
  rfl
theorem Jm {O : OM} {p l : Addr} {g1 g2 : OO} {u : OO} (hp : O p = none) (hl : updO O p g1 l = none) : updO (del (updO (updO O p g1) l u) l) p g2 = updO O p g2 := by
  have hlp : l ≠ p := fun e => by rw [e, zn] at hl; cases hl
  rw [zi hlp] at hl
  funext b
  by_cases hb : b = p
  · subst hb; rw [zn, zn]
  · rw [zi hb, zi hb]
    by_cases hbl : b = l
    · subst hbl; rw [xH, hl]
    · rw [x8 hbl, zi hbl, zi hb]
theorem zew {kvs : List (Key × W)} {q : Addr} {S : ST} (h : kvs = ownW q S ∨ kvs = ownW0 q S) : y8 kvs (Sum.inr (Str.ofString "high")) = some (.d (.int S.h)) ∧ y8 kvs (Sum.inr (Str.ofString "wide")) = some (.d (.int S.w)) ∧ y8 kvs (Sum.inr (Str.ofString "bottom")) = some (.d (.int S.bottom)) ∧
    y8 kvs (Sum.inr (Str.ofString "top")) = some (.d (.int S.top)) ∧ y8 kvs (Sum.inr (Str.ofString "right")) = some (.d (.int S.right)) ∧ y8 kvs (Sum.inr (Str.ofString "left")) = some (.d (.int S.left)) ∧ y8 kvs (Sum.inr (Str.ofString "home")) = some (.d (.bool S.home)) ∧
    kvs.length < 1000 ∧ (∀ r, (yV kvs (Sum.inr (Str.ofString "row")) r).length < 1000) ∧ ∀ r c, yV (yV kvs (Sum.inr (Str.ofString "row")) (.d (.int r))) (Sum.inr (Str.ofString "column")) (.d (.int c)) = ownW q { S with row := r, col := c } := by
  rcases h with rfl | rfl
  · exact ⟨rfl, rfl, rfl, rfl, rfl, rfl, rfl, by show (15 : Nat) < 1000; decide, fun r => by show (15 : Nat) < 1000; decide, fun r c => rfl⟩
  · exact ⟨rfl, rfl, rfl, rfl, rfl, rfl, rfl, by show (13 : Nat) < 1000; decide, fun r => by show (14 : Nat) < 1000; decide, fun r c => rfl⟩
end L2
namespace L2
theorem Jn {f : PF} {i j : Nat} {a : Cel} (h : f i j = a) : setF f i j a = f := by
  funext x y
  unfold setF
  split
  · rename_i e; rw [e.1, e.2, h]
  · rfl
end L2
namespace L2
open PySem PySem.Spec PyProof.Rows
noncomputable def Old (O O' : OM) : Prop := ∀ b, O b ≠ none → O' b = O b
theorem Old.refl {O : OM} : Old O O := fun _ _ => rfl
theorem Old.upd {O O' : OM} {a : Addr} {o : OO} (h : Old O O') (ha : O a = none) : Old O (updO O' a o) := fun b hb => by
  rw [zi (fun e => by rw [e] at hb; exact hb ha)]; exact h b hb
theorem Old.new {O O' : OM} {a : Addr} (h : Old O O') (ha : O' a = none) : O a = none := by
  cases e : O a with
  | none => rfl
  | some o => rw [h a (by rw [e]; simp)] at ha; rw [ha] at e; cases e
section
variable {q : Addr} {S : ST} {a b : Int} {u : Bool} {l : PyData}
theorem Jo : yV ((ownW q S).take 7) (Sum.inr (Str.ofString "bottom")) (.d (.int a)) = (ownW q { S with bottom := a }).take 7 := rfl
theorem KH : yV ((ownW q S).take 7) (Sum.inr (Str.ofString "right")) (.d (.int a)) = (ownW q { S with right := a }).take 7 := rfl
theorem zbG : y8 ((ownW q S).take 7) (Sum.inr (Str.ofString "top")) = some (.d (.int S.top)) := rfl
theorem KI : y8 ((ownW q S).take 7) (Sum.inr (Str.ofString "left")) = some (.d (.int S.left)) := rfl
theorem t8 : yV ((ownW q S).take 7) (Sum.inr (Str.ofString "home")) (.d (.bool u)) = (ownW q { S with home := u }).take 8 := rfl
theorem t9 : yV ((ownW q S).take 8) (Sum.inr (Str.ofString "putting")) (.d (.bool u)) = (ownW q { S with putting := u }).take 9 := rfl
theorem t10 : yV ((ownW q S).take 9) (Sum.inr (Str.ofString "wrap")) (.d (.bool u)) = (ownW q { S with wrap := u }).take 10 := rfl
theorem t11 : yV ((ownW q S).take 10) (Sum.inr (Str.ofString "last")) (.d l) = (ownW q { S with last := l }).take 11 := rfl
theorem t12 : yV ((ownW q S).take 11) (Sum.inr (Str.ofString "late")) (.d (.bool u)) = (ownW q { S with late := u }).take 12 := rfl
theorem t13 : yV ((ownW q S).take 12) (Sum.inr (Str.ofString "ink")) (.d (.int a)) = ownW0 q { S with ink := a } := rfl
theorem jL {n : Nat} : ((ownW q S).take n).length < 1000 := by
  rw [List.length_take, xm]; omega
end
end L2
namespace L2
open PySem PySem.Spec PyProof.Rows
theorem Ud {S : ST} (h : Bds S) : eR { S with col := eR S } = eR S := by
  have := h.rr
  have := h.c1
  have e : eR S = S.right ∨ (eR S = S.w - 1 ∧ S.right < S.w - 1) := by
    unfold eR
    split
    · exact .inl rfl
    · exact .inr ⟨rfl, by omega⟩
  show (if eR S ≤ S.right then S.right else (S.w : Int) - 1) = eR S
  rcases e with e | ⟨e, e2⟩
  · rw [e, if_pos (Int.le_refl _)]
  · rw [e, if_neg (by omega)]
theorem PicOk.set {S : ST} {i j : Nat} {c : Str} {k : Int} (h : PicOk S) (hc : PyData.strOk c = true) : PicOk { S with pic := setF S.pic i j (c, k) } := by
  intro x y hx hy
  show okC (setF S.pic i j (c, k) x y)
  unfold setF
  split
  · exact hc
  · exact h x y hx hy
theorem PicOk.mv {S : ST} {t b l r dn ac : Int} (h : PicOk S) (h0 : 0 ≤ t) (hb : b < S.h) (hl : 0 ≤ l) (hr : r < S.w) : PicOk (mvS t b l r dn ac S) := by
  intro x y hx hy
  show okC (mvP S.pic S.ink t b l r dn ac x y)
  unfold mvP
  split
  · split
    · exact h _ _ (by simp only [mvS] at *; omega) (by simp only [mvS] at *; omega)
    · show PyData.strOk (Str.ofString " ") = true
      decide +kernel
  · exact h x y hx hy
end L2
namespace L2
open PySem PySem.Spec PyProof.Rows
theorem StAt.picEq {O : OM} {C x dx p st kp : Addr} {S : ST} {f g : PF} (s : StAt O C x dx p st kp { S with pic := f }) (e : ∀ i j, i < S.h → j < S.w → f i j = g i j) : StAt O C x dx p st kp { S with pic := g } :=
  ⟨s.x, by rw [← UO e]; exact s.p, s.st, s.kp⟩
theorem Yy {n : Int} (h : 0 ≤ n) : yJ (.int (n + 1)) = n + 1 := by simp only [yJ]; split <;> omega
theorem Yz {n m : Int} (h : 0 ≤ n) (h1 : n < m) : va (.int (n + 1)) m = n + 1 := by
  simp only [va]
  rw [if_neg (by omega), if_neg (by omega)]
theorem qf {a b : Int} (h : a ≤ b) : x0 .none a b = a := by
  show (if b < a + 1 - 1 then b else a + 1 - 1) = a
  rw [if_neg (by omega)]
  omega
theorem KJ {t b : Int} {S : ST} (h0 : 0 ≤ t) (h1 : t ≤ b) (h2 : b < S.h) (hm : S.home = false) (hw : 1 ≤ S.w) : YX (.int (t + 1)) (.int (b + 1)) S = { S with top := t, bottom := b, row := 0, col := 0, late := false } := by
  unfold YX
  rw [Yy h0, Yz (by omega) h2, if_neg (by omega)]
  have e1 : t + 1 - 1 = t := by omega
  have e2 : b + 1 - 1 = b := by omega
  rw [e1, e2]
  unfold plS
  rw [if_neg (by show ¬ S.home = true; rw [hm]; decide)]
  show ({ S with top := t, bottom := b, row := x0 .none 0 (S.h - 1), col := x0 .none 0 (S.w - 1), late := false } : ST) = _
  rw [qf (by omega), qf (by omega)]
theorem KK {t b : Int} {S : ST} (h0 : 0 ≤ t) (h1 : t ≤ b) (h2 : b < S.w) (hm : S.home = false) (hh : 1 ≤ S.h) : YY (.int (t + 1)) (.int (b + 1)) S = { S with left := t, right := b, row := 0, col := 0, late := false } := by
  unfold YY
  rw [Yy h0, Yz (by omega) h2, if_neg (by omega)]
  have e1 : t + 1 - 1 = t := by omega
  have e2 : b + 1 - 1 = b := by omega
  rw [e1, e2]
  unfold plS
  rw [if_neg (by show ¬ S.home = true; rw [hm]; decide)]
  show ({ S with left := t, right := b, row := x0 .none 0 (S.h - 1), col := x0 .none 0 (S.w - 1), late := false } : ST) = _
  rw [qf (by omega), qf (by omega)]
theorem KL {u : Bool} {S : ST} : ∃ r c, YZ 3 u S = { S with home := u, row := r, col := c, late := false } := by
  unfold YZ
  rw [if_neg (by decide), if_neg (by decide), if_pos rfl]
  unfold plS
  split
  · exact ⟨_, _, rfl⟩
  · exact ⟨_, _, rfl⟩
theorem KM {c : Str} {S : ST} (hl : S.late = false) (hp : S.putting = false) (hc : S.pic S.row.toNat S.col.toNat = (c, S.ink)) : qa c S = if S.col < eR S then { S with last := .str c, col := S.col + 1 } else { S with last := .str c, late := S.wrap } := by
  rw [vO]
  have e1 : pA S = S := by unfold pA; rw [if_neg (by rw [hl]; simp)]
  have e2 : pB S = S := by unfold pB; rw [← hl]
  have e3 : pC S = S := by unfold pC; rw [if_neg (by rw [hp]; decide)]
  have e4 : pD c S = S := by unfold pD; rw [Jn hc]
  rw [e1, e2, e3, e4]
  unfold pF pE
  rfl
end L2
namespace L2
open PySem PySem.Spec PyProof.Rows
theorem KN {c : Str} {S : ST} (hB : Bds S) (hl : S.late = false) (hc : S.col = eR S) : qa c S = { S with pic := setF S.pic S.row.toNat S.col.toNat (c, S.ink), last := .str c, late := S.wrap } := by
  rw [vO]
  have e1 : pA S = S := by unfold pA; rw [if_neg (by rw [hl]; simp)]
  have e2 : pB S = S := by unfold pB; rw [← hl]
  rw [e1, e2]
  have e3 : ∃ g, pC S = { S with pic := g } ∧ setF g S.row.toNat S.col.toNat (c, S.ink) = setF S.pic S.row.toNat S.col.toNat (c, S.ink) := by
    unfold pC
    split
    · refine ⟨mvP S.pic S.ink S.row S.row S.col (eR S) 0 (-1), ?_, ?_⟩
      · unfold uP mvS
        rw [← hl]
      · funext a b
        unfold setF
        split
        · rfl
        · rename_i e
          exact xO (by have := hB.r0; have := hB.c0; omega)
    · exact ⟨S.pic, rfl, rfl⟩
  obtain ⟨g, e3, e4⟩ := e3
  rw [e3]
  unfold pF pE pD
  simp only
  rw [e4]
  have e5 : eR { S with pic := setF S.pic S.row.toNat S.col.toNat (c, S.ink), last := .str c } = eR S := rfl
  rw [if_neg (by rw [e5]; omega)]
noncomputable def XI (C : Addr) : SpW := fun ws O R => ∃ x dx p st kp d q S n, ws = [.own x, .own d, .d (.int n)] ∧ 0 ≤ n ∧ Both O C x dx p st kp d q S S ∧ Bds S ∧ yQ S ∧ ∀ q' S' O', Both O' C x dx p st kp d q' S' S' → Bds S' → yQ S' → R (.d (.bool true)) O'
noncomputable def U8 : SpW := fun ws O R => ∃ d q S, ws = [.own d] ∧ O d = some (.dK (ownW q S)) ∧ S.w ≤ 24 ∧ S.h ≤ 12 ∧ ∀ m : Int, 0 ≤ m → m ≤ 63 → R (.d (.int m)) O
noncomputable def sLaw : SpW := fun ws O R => ∃ ns : List Int, ws = [.d (.list (ns.map .int))] ∧ (∀ n ∈ ns, Bt 1048580 n) ∧ ns.length ≤ 63 ∧ ∀ O', R (.d (.bool true)) O'
end L2
namespace L2
open PySem PySem.Spec PyProof.Rows
theorem ZI {T1 T2 U : TSW} {D : EndsW} {ρ : WS} {O : OM} (J : WS → OM → Prop) (ht : ∀ R : WS → OM → Prop, (∀ ρ' O', J ρ' O' → R ρ' O') → uf T1 T2 { D with nx := R } ρ O) (hu : ∀ ρ' O', J ρ' O' → U D ρ' O') : uf T1 (uf T2 U) D ρ O := ht (U D) hu
end L2
namespace L2
open PySem PySem.Spec PyProof.Rows
noncomputable def U9 (up : Bool) (n : PyData) (S : ST) : ST := { u7 S.top (if up = true then yJ n else -(yJ n)) S with late := false }
noncomputable def KO (up : Bool) : Str := if up = true then "R" else "D"
noncomputable def XJ (C : Addr) : SpW := fun ws O R => ∃ (up : Bool) (n : PyData), xq n ∧ sSt C [.d (.str (KO up)), .d n] Bds (U9 up n) ws O R
noncomputable def Qa (C : Addr) : SpW := fun ws O R => ∃ x dx p st kp d q S0 S, ws = [.own d] ∧ Both O C x dx p st kp d q S0 S ∧ Bds S ∧ ∀ q' O', Both O' C x dx p st kp d q' S0 (lineE S) → R (.d .none) O'
theorem yQ.roll {S : ST} {a s : Int} (h : yQ S) (hB : Bds S) (ha : 0 ≤ a) : yQ (u7 a s S) := ⟨PicOk.mv h.1 ha hB.b1 hB.l0 hB.rr, h.2⟩
theorem yQ.left {S : ST} (h : yQ S) : yQ (u9 S) := h
theorem yQ.lineE {S : ST} (h : yQ S) (hB : Bds S) : yQ (lineE S) := by
  have h1 := h.left
  have hB1 := hB.left
  unfold L2.lineE
  dsimp only
  split
  · exact h1.roll hB1 hB1.t0
  · split
    · exact h1
    · exact h1
end L2
namespace L2
open PySem PySem.Spec PyProof.Rows
noncomputable def Qb (C : Addr) : SpW := fun ws O R => ∃ n, xq n ∧ sSt C [.d n] Bds (uP (yJ n)) ws O R
noncomputable def xD (f : PF) (k : Int) (w : Nat) (a b : Int) : PF := fun i j => if j < w ∧ a ≤ (i : Int) * w + j ∧ (i : Int) * w + j < b then xx k else f i j
noncomputable def XL (a b : Int) (S : ST) : ST := { S with pic := xD S.pic S.ink S.w a b, late := false }
noncomputable def Y3 (C : Addr) : SpW := fun ws O R => ∃ a b : Int, 0 ≤ a ∧ a ≤ 1000 ∧ 0 ≤ b ∧ b ≤ 1000 ∧ sSt C [.d (.int a), .d (.int b)] (fun S => Bds S ∧ b ≤ (S.h : Int) * S.w) (XL a b) ws O R
noncomputable def Qc (C : Addr) : SpW := fun ws O R => ∃ n, xq n ∧ sSt C [.d n] Bds (fun S => XL (S.row * S.w + S.col) (S.row * S.w + (if (S.w : Int) < S.col + yJ n then (S.w : Int) else S.col + yJ n)) S) ws O R
theorem XM {f : PF} {k : Int} {w : Nat} {a : Int} : xD f k w a a = f := by
  funext i j
  unfold xD
  rw [if_neg (by omega)]
theorem zbH {f : PF} {k : Int} {w : Nat} {a b : Int} (h : b ≤ a) : xD f k w a b = f := by
  funext i j
  unfold xD
  rw [if_neg (by omega)]
theorem Jp {f : PF} {k : Int} {w : Nat} {a b : Int} (h0 : 0 ≤ b) (hab : a ≤ b) (hw : 1 ≤ w) : setF (xD f k w a b) (b / w).toNat (b % w).toNat (xx k) = xD f k w a (b + 1) := by
  have w0 : (0 : Int) < w := by omega
  have e1 : b % w = b - w * (b / w) := by have := Int.mul_ediv_add_emod b w; omega
  have e2 : 0 ≤ b % (w : Int) := Int.emod_nonneg _ (by omega)
  have e3 : b % (w : Int) < w := Int.emod_lt_of_pos _ w0
  have e4 : 0 ≤ b / (w : Int) := Int.ediv_nonneg h0 (by omega)
  have key : ∀ i j : Nat, j < w → ((i : Int) * w + j = b ↔ i = (b / w).toNat ∧ j = (b % w).toNat) := fun i j hj => by
    constructor
    · intro h
      have q1 : b / w = i := by
        rw [← h, Int.add_comm, Int.add_mul_ediv_right _ _ (by omega), Int.ediv_eq_zero_of_lt (by omega) (by omega)]
        omega
      have q2 : b % w = j := by
        rw [← h, Int.add_comm, Int.add_mul_emod_self_right, Int.emod_eq_of_lt (by omega) (by omega)]
      exact ⟨by omega, by omega⟩
    · rintro ⟨rfl, rfl⟩
      rw [Int.toNat_of_nonneg e4, Int.toNat_of_nonneg e2, Int.mul_comm]
      exact Int.mul_ediv_add_emod b w
  funext i j
  unfold setF
  by_cases hj : j < w
  · by_cases h : i = (b / w).toNat ∧ j = (b % w).toNat
    · rw [if_pos h]
      have := (key i j hj).2 h
      unfold xD
      rw [if_pos ⟨hj, by omega, by omega⟩]
    · rw [if_neg h]
      have nb : ¬((i : Int) * w + j = b) := fun z => h ((key i j hj).1 z)
      unfold xD
      by_cases z : a ≤ (i : Int) * w + j ∧ (i : Int) * w + j < b
      · rw [if_pos ⟨hj, z⟩, if_pos ⟨hj, z.1, by omega⟩]
      · rw [if_neg (fun y => z y.2), if_neg (fun y => z ⟨y.2.1, by have := y.2.2; omega⟩)]
  · rw [if_neg (by omega)]
    unfold xD
    rw [if_neg (fun y => hj y.1), if_neg (fun y => hj y.1)]
end L2
namespace L2
open PySem PySem.Spec PyProof.Rows
noncomputable def spI (y : Int) (S : ST) : Int × Int :=
  if y = 0 then (S.row * S.w + S.col, S.row * S.w + S.w) else if y = 1 then (S.row * S.w, S.row * S.w + S.col + 1) else if y = 2 then (S.row * S.w, S.row * S.w + S.w)
  else if y = 3 then (S.row * S.w + S.col, S.w * S.h) else if y = 4 then (0, S.row * S.w + S.col + 1) else if y = 5 then (0, S.w * S.h) else (0, 0)
noncomputable def kU : PyData → Int
  | .int i => i
  | _ => 0
noncomputable def Qd (C : Addr) : SpW := fun ws O R => ∃ x dx p st kp S m, ws = [.own x, .d m] ∧ xq m ∧ StAt O C x dx p st kp S ∧ Bds S ∧ ∀ O', StAt O' C x dx p st kp (XL (spI (kU m) S).1 (spI (kU m) S).2 S) → (∀ b, b ≠ x → b ≠ p → O b ≠ none → O' b = O b) → R (.d .none) O'
theorem Both.stO {O O' : OM} {C x dx p st kp d q : Addr} {S S' S1 : ST} (b : Both O C x dx p st kp d q S S') (h : StAt O' C x dx p st kp S1) (k : ∀ b, b ≠ x → b ≠ p → O b ≠ none → O' b = O b) : Both O' C x dx p st kp d q S1 S' :=
  ⟨h, ⟨by rw [k d b.dx' b.dp (by rw [b.o.d]; simp)]; exact b.o.d, by rw [k q b.qx (Ne.symm b.pq) (by rw [b.o.q]; simp)]; exact b.o.q⟩, b.ds, b.pq⟩
theorem StAt.old {O O' : OM} {C x dx p st kp : Addr} {S : ST} (s : StAt O C x dx p st kp S) (h : Old O O') : StAt O' C x dx p st kp S :=
  ⟨by rw [h x (by rw [s.x]; simp)]; exact s.x, by rw [h p (by rw [s.p]; simp)]; exact s.p, by rw [h st (by rw [s.st]; simp)]; exact s.st, by rw [h kp (by rw [s.kp]; simp)]; exact s.kp⟩
theorem Both.old {O O' : OM} {C x dx p st kp d q : Addr} {S S' : ST} (b : Both O C x dx p st kp d q S S') (h : Old O O') : Both O' C x dx p st kp d q S S' :=
  ⟨b.s.old h, ⟨by rw [h d (by rw [b.o.d]; simp)]; exact b.o.d, by rw [h q (by rw [b.o.q]; simp)]; exact b.o.q⟩, b.ds, b.pq⟩
theorem Qe {S : ST} (h : Bds S) : 0 ≤ S.row * (S.w : Int) ∧ S.row * (S.w : Int) + S.w ≤ (S.w : Int) * S.h ∧ (S.w : Int) * S.h ≤ 288 := by
  have r0 := h.r0
  have r1 := h.r1
  have w2 := h.w2
  have h2 := h.h2
  have m0 : 0 ≤ S.row * (S.w : Int) := Int.mul_nonneg r0 (by omega)
  have m1 : (S.row + 1) * (S.w : Int) ≤ (S.h : Int) * S.w := Int.mul_le_mul_of_nonneg_right (by omega) (by omega)
  have m2 : (S.h : Int) * S.w ≤ 12 * 24 := Int.mul_le_mul (by omega) (by omega) (by omega) (by omega)
  rw [Int.add_mul] at m1
  rw [Int.mul_comm (S.w : Int) (S.h : Int)]
  omega
theorem Jq {S : ST} (h : Bds S) {n : Int} : n / (S.w : Int) = S.row ↔ S.row * (S.w : Int) ≤ n ∧ n < S.row * (S.w : Int) + S.w := by
  have w1 := h.w1
  have e := Int.mul_ediv_add_emod n (S.w : Int)
  have e2 : 0 ≤ n % (S.w : Int) := Int.emod_nonneg _ (by omega)
  have e3 : n % (S.w : Int) < S.w := Int.emod_lt_of_pos _ (by omega)
  constructor
  · intro z
    rw [z, Int.mul_comm] at e
    omega
  · rintro ⟨a, b⟩
    rcases Int.lt_trichotomy (n / (S.w : Int)) S.row with z | z | z
    · have : (n / (S.w : Int) + 1) * (S.w : Int) ≤ S.row * S.w := Int.mul_le_mul_of_nonneg_right (by omega) (by omega)
      rw [Int.add_mul, Int.mul_comm (n / (S.w : Int))] at this
      omega
    · exact z
    · have : (S.row + 1) * (S.w : Int) ≤ n / (S.w : Int) * S.w := Int.mul_le_mul_of_nonneg_right (by omega) (by omega)
      rw [Int.add_mul, Int.mul_comm (n / (S.w : Int))] at this
      omega
theorem zdm {S : ST} (h : Bds S) (y : Int) : 0 ≤ (spI y S).1 ∧ (spI y S).1 ≤ 1000 ∧ 0 ≤ (spI y S).2 ∧ (spI y S).2 ≤ 1000 ∧ (spI y S).2 ≤ (S.w : Int) * S.h := by
  obtain ⟨a, b, c⟩ := Qe h
  have c0 := h.c0
  have c1 := h.c1
  unfold spI
  repeat' split
  all_goals simp only; omega
theorem yQ.wip {S : ST} {a b : Int} (h : yQ S) : yQ (XL a b S) := by
  refine ⟨fun i j hi hj => ?_, h.2⟩
  show okC (xD S.pic S.ink S.w a b i j)
  unfold xD
  split
  · show PyData.strOk (Str.ofString " ") = true
    decide +kernel
  · exact h.1 i j hi hj
theorem zbI {v0 v1 v2 v3 v4 v5 : Bool} {y : Int} : (y8 [((Sum.inl 0 : Key), W.d (.bool v0)), (Sum.inl 1, .d (.bool v1)), (Sum.inl 2, .d (.bool v2)), (Sum.inl 3, .d (.bool v3)), (Sum.inl 4, .d (.bool v4)), (Sum.inl 5, .d (.bool v5))] (Sum.inl y)).getD (.d (.bool false)) =
    .d (.bool (if y = 0 then v0 else if y = 1 then v1 else if y = 2 then v2 else if y = 3 then v3 else if y = 4 then v4 else if y = 5 then v5 else false)) := by
  unfold y8
  by_cases e0 : y = 0
  · subst e0; rfl
  by_cases e1 : y = 1
  · subst e1; rfl
  by_cases e2 : y = 2
  · subst e2; rfl
  by_cases e3 : y = 3
  · subst e3; rfl
  by_cases e4 : y = 4
  · subst e4; rfl
  by_cases e5 : y = 5
  · subst e5; rfl
  simp [e0, e1, e2, e3, e4, e5, List.find?_cons, Ne.symm e0, Ne.symm e1, Ne.symm e2, Ne.symm e3, Ne.symm e4, Ne.symm e5]
theorem YA {S : ST} {n y : Int} {v0 v1 v2 be ah : Bool} (hB : Bds S) (n0 : 0 ≤ n) (n1 : n < (S.w : Int) * S.h) (h0 : v0 = true ↔ S.row * (S.w : Int) + S.col ≤ n ∧ n < S.row * (S.w : Int) + S.w) (h1 : v1 = true ↔ S.row * (S.w : Int) ≤ n ∧ n ≤ S.row * (S.w : Int) + S.col) (h2 : v2 = true ↔ S.row * (S.w : Int) ≤ n ∧ n < S.row * (S.w : Int) + S.w)
    (hb : be = true ↔ S.row * (S.w : Int) + S.col ≤ n) (ha : ah = true ↔ n ≤ S.row * (S.w : Int) + S.col) :
    ((if y = 0 then v0 else if y = 1 then v1 else if y = 2 then v2 else if y = 3 then be else if y = 4 then ah else if y = 5 then true else false) = true) ↔ ((spI y S).1 ≤ n ∧ n < (spI y S).2) := by
  unfold spI
  by_cases e0 : y = 0
  · rw [if_pos e0, if_pos e0]; exact h0
  rw [if_neg e0, if_neg e0]
  by_cases e1 : y = 1
  · rw [if_pos e1, if_pos e1, h1]; simp only; omega
  rw [if_neg e1, if_neg e1]
  by_cases e2 : y = 2
  · rw [if_pos e2, if_pos e2]; exact h2
  rw [if_neg e2, if_neg e2]
  by_cases e3 : y = 3
  · rw [if_pos e3, if_pos e3, hb]; simp only; omega
  rw [if_neg e3, if_neg e3]
  by_cases e4 : y = 4
  · rw [if_pos e4, if_pos e4, ha]; simp only; omega
  rw [if_neg e4, if_neg e4]
  by_cases e5 : y = 5
  · rw [if_pos e5, if_pos e5]; simp only [true_iff]; omega
  rw [if_neg e5, if_neg e5]
  simp only [Bool.false_eq_true, false_iff]
  omega
end L2
namespace L2
open PySem PySem.Spec PyProof.Rows
section
variable {K : PySem.W.Frag}
noncomputable def inS (i j : Str) : Bool := !(Builtin.Str.occurrences j i 0 j.length 1).isEmpty
noncomputable def zdn : R2W := fun x y O R => ∃ i j, x = .d (.str i) ∧ y = .d (.str j) ∧ R (.d (.bool (inS i j))) O
theorem zd1 : RefR K (fun x y H Q => ∃ i j, x = .str i ∧ y = .str j ∧ Q (.bl (!(Builtin.Str.occurrences j i 0 j.length 1).isEmpty)) H) zdn := by
  rintro Γ O H x y v u S rx ry Q R ⟨i, j, rfl, rfl, h⟩ k
  exact ⟨i, j, rx, ry, k _ _ _ _ _ (Le.refl _) S vn h⟩
end
theorem zd2 {α : Type} {a b : α} : atI [a, b] (0 : Int) = some a := rfl
theorem zd3 {α : Type} {a b : α} : atI [a, b] (1 : Int) = some b := rfl
inductive Lt where
  | R | D | i | k | s | x | e | w
noncomputable def Lt.str : Lt → Str
  | .R => "R"
  | .D => "D"
  | .i => "i"
  | .k => "k"
  | .s => "s"
  | .x => "x"
  | .e => "e"
  | .w => "w"
theorem Lt.inDis {l : Lt} : inS l.str (Str.ofString "Dis") = (match l with | .D => true | .i => true | .s => true | _ => false) := by cases l <;> decide +kernel
theorem Lt.inRD {l : Lt} : inS l.str (Str.ofString "RD") = (match l with | .R => true | .D => true | _ => false) := by cases l <;> decide +kernel
theorem Lt.inIk {l : Lt} : inS l.str (Str.ofString "ik") = (match l with | .i => true | .k => true | _ => false) := by cases l <;> decide +kernel
theorem Lt.inSx {l : Lt} : inS l.str (Str.ofString "sx") = (match l with | .s => true | .x => true | _ => false) := by cases l <;> decide +kernel
theorem Lt.isI {l : Lt} : (l.str = Str.ofString "i") = (match l with | .i => True | _ => False) := by cases l <;> simp [Lt.str] <;> decide +kernel
theorem Lt.isK {l : Lt} : (l.str = Str.ofString "k") = (match l with | .k => True | _ => False) := by cases l <;> simp [Lt.str] <;> decide +kernel
theorem Lt.isS {l : Lt} : (l.str = Str.ofString "s") = (match l with | .s => True | _ => False) := by cases l <;> simp [Lt.str] <;> decide +kernel
theorem Lt.isX {l : Lt} : (l.str = Str.ofString "x") = (match l with | .x => True | _ => False) := by cases l <;> simp [Lt.str] <;> decide +kernel
theorem Lt.isE {l : Lt} : (l.str = Str.ofString "e") = (match l with | .e => True | _ => False) := by cases l <;> simp [Lt.str] <;> decide +kernel
noncomputable def vD (l : Lt) (m : PyData) (S : ST) : PF := match l with
  | .R => mvP S.pic S.ink S.top S.bottom S.left S.right (yJ m) 0
  | .D => mvP S.pic S.ink S.top S.bottom S.left S.right (-(yJ m)) 0
  | .i => if S.top ≤ S.row ∧ S.row ≤ S.bottom then mvP S.pic S.ink S.row S.bottom S.left S.right (-(yJ m)) 0 else S.pic
  | .k => if S.top ≤ S.row ∧ S.row ≤ S.bottom then mvP S.pic S.ink S.row S.bottom S.left S.right (yJ m) 0 else S.pic
  | .s => mvP S.pic S.ink S.row S.row S.col (eR S) 0 (-(yJ m))
  | .x => mvP S.pic S.ink S.row S.row S.col (eR S) 0 (yJ m)
  | .e => xD S.pic S.ink S.w (S.row * S.w + S.col) (S.row * S.w + (if (S.w : Int) < S.col + yJ m then (S.w : Int) else S.col + yJ m))
  | .w => xD S.pic S.ink S.w (spI (kU m) S).1 (spI (kU m) S).2
noncomputable def jM (l : Lt) (m : PyData) (S : ST) : ST := { S with pic := vD l m S, late := false }
theorem zd4 {m : PyData} {S : ST} : u8 (-(yJ m)) S = jM .i m S := by
  unfold u8 jM vD
  simp only
  split <;> rfl
theorem zd5 {m : PyData} {S : ST} : u8 (yJ m) S = jM .k m S := by
  unfold u8 jM vD
  simp only
  split <;> rfl
theorem PicOk.wip {S : ST} {a b : Int} (h : PicOk S) : PicOk { S with pic := xD S.pic S.ink S.w a b } := by
  intro i j hi hj
  show okC (xD S.pic S.ink S.w a b i j)
  unfold xD
  split
  · show PyData.strOk (Str.ofString " ") = true
    decide +kernel
  · exact h i j hi hj
theorem yQ.eff {S : ST} {l : Lt} {m : PyData} (h : yQ S) (hB : Bds S) : yQ (jM l m S) := by
  have e := qe hB
  refine ⟨?_, h.2⟩
  show PicOk { S with pic := vD l m S }
  cases l <;> simp only [vD]
  · exact PicOk.mv h.1 hB.t0 hB.b1 hB.l0 hB.rr
  · exact PicOk.mv h.1 hB.t0 hB.b1 hB.l0 hB.rr
  · split
    · exact PicOk.mv h.1 hB.r0 hB.b1 hB.l0 hB.rr
    · exact h.1
  · split
    · exact PicOk.mv h.1 hB.r0 hB.b1 hB.l0 hB.rr
    · exact h.1
  · exact PicOk.mv h.1 hB.r0 hB.r1 hB.c0 e.2
  · exact PicOk.mv h.1 hB.r0 hB.r1 hB.c0 e.2
  · exact PicOk.wip h.1
  · exact PicOk.wip h.1
noncomputable def Qf (C : Addr) : SpW := fun ws O R => ∃ x dx p st kp S m, ∃ l : Lt, ws = [.own x, .d (.str l.str), .d m] ∧ xq m ∧ StAt O C x dx p st kp S ∧ Bds S ∧ ∀ O', StAt O' C x dx p st kp (jM l m S) → (∀ b, b ≠ x → b ≠ p → O b ≠ none → O' b = O b) → R (.d .none) O'
noncomputable def Frm (S : ST) (v : Cel) (z : PyData) : Prop := (z = .none ∧ v = xx S.ink) ∨ ∃ r c : Int, z = .tuple [.int r, .int c] ∧ 0 ≤ r ∧ r < S.h ∧ 0 ≤ c ∧ c < S.w ∧ v = atF S.pic r c
theorem Frm.here {S : ST} {r c : Nat} (hr : r < S.h) (hc : c < S.w) : Frm S (S.pic r c) (.tuple [.int r, .int c]) := .inr ⟨r, c, rfl, by omega, by omega, by omega, by omega, by simp [atF]⟩
theorem Yb {S : ST} {a b : Int} {r c : Nat} {u : Bool} (hr : r < S.h) (hc : c < S.w) (h : u = true ↔ a ≤ (r : Int) * S.w + c ∧ (r : Int) * S.w + c < b) : Frm S (xD S.pic S.ink S.w a b r c) (if u = true then .none else .tuple [.int r, .int c]) := by
  unfold xD
  by_cases e : u = true
  · rw [if_pos e, if_pos ⟨hc, h.1 e⟩]
    exact .inl ⟨rfl, rfl⟩
  · rw [if_neg e, if_neg (fun z => e (h.2 z.2))]
    exact Frm.here hr hc
theorem XN {w h r c : Nat} (hr : r < h) (hc : c < w) : 0 ≤ (r : Int) * w + c ∧ (r : Int) * w + c < (w : Int) * h := by
  have m0 : 0 ≤ (r : Int) * (w : Int) := Int.mul_nonneg (by omega) (by omega)
  have m1 : ((r : Int) + 1) * (w : Int) ≤ (h : Int) * w := Int.mul_le_mul_of_nonneg_right (by omega) (by omega)
  rw [Int.add_mul] at m1
  rw [Int.mul_comm (w : Int) (h : Int)]
  omega
noncomputable def jN : SpW := fun ws O R => ∃ d q S a dn, ∃ r c : Nat, ws = [.own d, .d (.int a), .d (.int dn), .d (.int r), .d (.int c)] ∧ O d = some (.dK (ownW q S)) ∧ Bds S ∧ 0 ≤ a ∧ r < S.h ∧ c < S.w ∧ ∀ z, Frm S (mvP S.pic S.ink a S.bottom S.left S.right dn 0 r c) z → R (.d z) O
noncomputable def XO : SpW := fun ws O R => ∃ d q S ac, ∃ r c : Nat, ws = [.own d, .d (.int ac), .d (.int r), .d (.int c)] ∧ O d = some (.dK (ownW q S)) ∧ Bds S ∧ r < S.h ∧ c < S.w ∧ ∀ z, Frm S (mvP S.pic S.ink S.row S.row S.col (eR S) 0 ac r c) z → R (.d z) O
noncomputable def XQ : SpW := fun ws O R => ∃ d q S y, ∃ r c : Nat, ws = [.own d, .d (.int y), .d (.int r), .d (.int c)] ∧ O d = some (.dK (ownW q S)) ∧ Bds S ∧ r < S.h ∧ c < S.w ∧ 0 ≤ y ∧ ∀ z O', Old O O' → Frm S (xD S.pic S.ink S.w (spI y S).1 (spI y S).2 r c) z → R (.d z) O'
noncomputable def Qg : SpW := fun ws O R => ∃ d q S m, ∃ l : Lt, ∃ r c : Nat, ws = [.own d, .d (.str l.str), .d m, .d (.int r), .d (.int c)] ∧ O d = some (.dK (ownW q S)) ∧ xq m ∧ Bds S ∧ r < S.h ∧ c < S.w ∧ ∀ z O', Old O O' → Frm S (vD l m S r c) z → R (.d z) O'
noncomputable def ZJ (C : Addr) : SpW := fun ws O R => ∃ x dx p st kp d q S0 S m, ∃ l : Lt, ws = [.own d, .d (.str l.str), .d m] ∧ xq m ∧ Both O C x dx p st kp d q S0 S ∧ Bds S ∧ ∀ q' O', Both O' C x dx p st kp d q' S0 { S with pic := vD l m S } → R (.d .none) O'
noncomputable def ZK (C : Addr) : SpW := fun ws O R => ∃ x dx p st kp d q S0 S c, ws = [.own d, .d (.str c)] ∧ Both O C x dx p st kp d q S0 S ∧ Bds S ∧ ∀ q' O', Both O' C x dx p st kp d q' S0 (qa c S) → R (.d .none) O'
noncomputable def Qh (C : Addr) : SpW := fun ws O R => ∃ x dx p st kp d q S n, ws = [.own x, .own d, .d (.int n)] ∧ 0 ≤ n ∧ Both O C x dx p st kp d q S S ∧ Bds S ∧ yQ S ∧ ∀ S' O', Both O' C x dx p st kp d q S' S' → Bds S' → yQ S' → R (.d .none) O'
theorem Bds.put {c : Str} {S : ST} (h : Bds S) : Bds (qa c S) := by
  rw [vO]
  exact (show Bds (L2.pE c (L2.pD c (L2.pC (L2.pB (L2.pA S))))) from { h.pA.pB.pC with }).pF
theorem yQ.put {c : Str} {S : ST} (h : yQ S) (hB : Bds S) (hc : PyData.strOk c = true) : yQ (qa c S) := by
  rw [vO]
  have h1 : yQ (pA S) := by
    unfold pA
    split
    · exact h.lineE hB
    · exact h
  have h2 : yQ (pB (pA S)) := h1
  have hB2 := hB.pA.pB
  generalize pB (pA S) = S2 at *
  have h3 : yQ (pC S2) := by
    unfold pC
    split
    · exact ⟨PicOk.mv h2.1 hB2.r0 hB2.r1 hB2.c0 (qe hB2).2, h2.2⟩
    · exact h2
  generalize pC S2 = S3 at *
  have h4 : yQ (pE c (pD c S3)) := ⟨PicOk.set h3.1 hc, XF hc⟩
  generalize pE c (pD c S3) = S4 at *
  unfold pF
  split
  · exact h4
  · exact h4
end L2
namespace L2
open PySem PySem.Spec PyProof.Rows
theorem XR : ∀ l : List Int, PyData.canLayAll0 (l.map PyData.int) = true ∧ PyData.depthAll (l.map PyData.int) = 0
  | [] => ⟨rfl, rfl⟩
  | n :: l => by
    obtain ⟨h1, h2⟩ := XR l
    exact ⟨by simp [PyData.canLayAll0, PyData.canLay0, h1], by simp [PyData.depthAll, PyData.depth, h2]⟩
theorem qm (l : List Int) : SeqAt.shaped (.list (l.map PyData.int)) = true := by
  obtain ⟨h1, h2⟩ := XR l
  simp [SeqAt.shaped, PyData.canLay0, PyData.depth, h1, h2]
theorem kE : ∀ l : List Int, PyData.eqvAll (l.map PyData.int) (l.map PyData.int) = true
  | [] => rfl
  | n :: l => by simp [PyData.eqvAll, PyData.eqv, kE l]
theorem XS (l : List Int) : PyData.eqv (.list (l.map PyData.int)) (.list (l.map PyData.int)) = true := by simp only [PyData.eqv]; exact kE l
theorem YB {w : Nat} {g : Nat → Cel} : ∀ {l : List Nat}, (∀ j ∈ l, okC (g j)) → PyData.canLayAll0 (l.map fun j => yE (g j)) = true ∧ PyData.depthAll (l.map fun j => yE (g j)) ≤ 1
  | [], _ => ⟨rfl, Nat.zero_le _⟩
  | j :: l, h => by
    obtain ⟨h1, h2⟩ := YB (w := w) (l := l) fun k hk => h k (List.mem_cons_of_mem _ hk)
    have h0 : PyData.strOk (g j).1 = true := h j List.mem_cons_self
    refine ⟨?_, ?_⟩
    · simp [PyData.canLayAll0, yE, PyData.canLay0, h0] ; exact h1
    · simp only [List.map_cons, PyData.depthAll, yE, PyData.depth]
      simp only [yE] at h2
      omega
theorem XT {w : Nat} {f : PF} : ∀ {l : List Nat}, (∀ i ∈ l, ∀ j, j < w → okC (f i j)) → PyData.canLayAll0 ((l.map fun i => (List.range w).map fun j => yE (f i j)).map PyData.list) = true ∧ PyData.depthAll ((l.map fun i => (List.range w).map fun j => yE (f i j)).map PyData.list) ≤ 2
  | [], _ => ⟨rfl, Nat.zero_le _⟩
  | i :: l, h => by
    obtain ⟨h1, h2⟩ := XT (l := l) fun k hk => h k (List.mem_cons_of_mem _ hk)
    obtain ⟨g1, g2⟩ := YB (w := w) (g := f i) (l := List.range w) fun j hj => h i List.mem_cons_self j (by simpa using hj)
    refine ⟨?_, ?_⟩
    · simp only [List.map_cons, PyData.canLayAll0, PyData.canLay0, g1, h1, Bool.and_self]
    · simp only [List.map_cons, PyData.depthAll, PyData.depth]
      omega
theorem Vw {h w : Nat} {f : PF} (hf : ∀ i j, i < h → j < w → okC (f i j)) : SeqAt.shaped (.list ((genG h w f).map PyData.list)) = true := by
  obtain ⟨h1, h2⟩ := XT (w := w) (f := f) (l := List.range h) fun i hi j hj => hf i j (by simpa using hi) hj
  unfold genG
  have h3 : PyData.depth (.list (((List.range h).map fun i => (List.range w).map fun j => yE (f i j)).map PyData.list)) ≤ 64 := by
    simp only [PyData.depth]
    omega
  have h4 : PyData.canLay0 (.list (((List.range h).map fun i => (List.range w).map fun j => yE (f i j)).map PyData.list)) = true := by
    simp only [PyData.canLay0]
    exact h1
  unfold SeqAt.shaped
  rw [h4, decide_eq_true h3]
  rfl
theorem jO {g : Nat → Cel} : ∀ l : List Nat, PyData.eqvAll (l.map fun j => yE (g j)) (l.map fun j => yE (g j)) = true
  | [] => rfl
  | j :: l => by simp only [List.map_cons, PyData.eqvAll, zaY, decide_true, Bool.true_and]; exact jO l
theorem KP {h w : Nat} {f : PF} : PyData.eqv (.list ((genG h w f).map PyData.list)) (.list ((genG h w f).map PyData.list)) = true := by
  unfold genG
  simp only [PyData.eqv]
  generalize List.range h = l
  induction l with
  | nil => rfl
  | cons i l ih => simp only [List.map_cons, PyData.eqvAll, PyData.eqv, jO, Bool.true_and]; exact ih
theorem Jr {w : Nat} : srt ((List.range ((w - 1) / 4)).map fun (i : Nat) => (4 + (i : Int) * 4)) = (List.range ((w - 1) / 4)).map fun (i : Nat) => (4 + (i : Int) * 4) := by
  refine (QY (List.Perm.refl _) ?_).symm
  rw [List.pairwise_map]
  exact List.Pairwise.imp (fun {a b} h => by omega) List.pairwise_lt_range
noncomputable def Qi (q : Addr) (S : ST) : W → Option PyData
  | .d (.str s) => match y8 (ownW q S) (Sum.inr s) with
    | some (.d x) => some x
    | _ => none
  | _ => none
end L2
namespace Att
open PySem PySem.W PySem.Calls PyProof.Rows
theorem KQ {i : Int} (x : (WData.int i).layable = true) : L2.Bt 1048576 i := by
  have h := (layableW_iff.mp x).2.2
  simp only [WData.weight] at h
  unfold L2.Bt
  by_cases hi : i = 0
  · subst hi
    exact Nat.two_pow_pos _
  · have hn : i.natAbs ≠ 0 := by omega
    simp only [beq_iff_eq, hi, if_false] at h
    exact (Nat.log2_lt hn).mp (by
      have e : (2 : Nat) ^ 20 = 1048576 := by decide
      omega)
theorem attB {l : OpenLaw} {n : Nat} {q : Program} {loose : List Str} {XP : (Str → Option Value) → Heap → Prop} {YP : World → Heap → Prop} {d : DefRec}
    (hn : l.most = some n) (hdf : d.params.defaults = [])
    (call : ∀ (w : World) (s₀ s₁ : Shared) (mg mb : Str → Option Value) (fa a : Addr) (vs : List Value) (ns : List Int), Ground q loose [] XP w s₀ mg mb s₁.heap → YP w s₁.heap → mg d.name = some (.ref fa) →
      s₁.heap.get? a = some { cls := .type "list", data := .seq vs.toArray } → IntsAre vs ns → ns.length ≤ n → (∀ i ∈ ns, L2.Bt 1048576 i) → s₁.gens = #[] →
      codeAny (model l.prog w) callerA (.call (.ref fa) ⟨[.ref a], []⟩) (fun r s' => r = .ok (.ret (.bool true)) ∧ OldK s₁.heap s'.heap ∧ s'.os = s₁.os ∧ AllBare s'.gens) s₁) :
    WalkO q loose XP YP l.row.toRowW d [] (fun f vs => PySem.call f vs) := by
  intro w s₀ s₁ mg mb G Y fa o pm cd doc dV kV ho hd hcd hD hm hg args vals as hp hy hr hw hl
  cases Dflts.none hD hdf
  cases Dflts.noKw hD
  obtain ⟨a, vs, ns, e1, e2, hb, hi, hk⟩ := QR hn hp hw
  subst e1
  subst e2
  have bits : ∀ i ∈ ns, L2.Bt 1048576 i := fun i h => KQ (layableW_item (layableW_arg hy _ List.mem_cons_self) _ (List.mem_map.2 ⟨i, h, rfl⟩))
  refine enter_call (codeAny_mono (call w s₀ s₁ mg mb fa a vs ns G Y hm hb hi hk bits hg) ?_)
  rintro r s' ⟨rfl, c2, c3, c4⟩
  refine ⟨.inl ⟨.bool true, .bool true, [], rfl, fun _ => rfl, .bool true, QS l _, fun _ => ⟨List.Pairwise.nil, fun _ z => ?_⟩⟩, c2, c3, c4⟩
  cases z
end Att
namespace L2
open PySem PySem.Spec PyProof.Rows
theorem walkW {l : PySem.W.OpenLaw} {n k : Nat} {q : Program} {loose : List Str} {XP : (Str → Option Value) → Heap → Prop} {YP : World → Heap → Prop} {d : DefRec} {K : Params → PySem.W.Frag} {x : Str} {s : SpW} (hn : l.most = some n) (hn2 : n ≤ 1000) (hdf : d.params.defaults = []) (hr : Room k callerA)
    (hY : ∀ (w : World) (h : Heap), YP w h → (K w.params).In h)
    (F : ∀ (w : World) (mg : Str → Option Value) (fa : Addr) (h : Heap), (K w.params).In h → h.Ns mainGlobals mg → mg d.name = some (.ref fa) →
      ∃ fd : FuncData, (∀ (s : Shared) (u : Value), BindsTo s fd ⟨[u], []⟩ [(x, u)]) ∧ ∀ base : Heap, (K w.params).In base → base.Ns mainGlobals mg → FnOk l.prog w (K w.params) mg base CX0 k fa fd [x] (zb (K w.params) s))
    (hs : ∀ (ns : List Int) (O : OM) (R : WK), ns.length ≤ n → (∀ i ∈ ns, Bt 1048576 i) → (∀ O', R (.d (.bool true)) O') → s [.d (.list (ns.map .int))] O R) :
    PySem.W.WalkO q loose XP YP l.row.toRowW d [] (fun f vs => PySem.call f vs) := by
  refine Att.attB hn hdf fun w s₀ s₁ mg mb fa a vs ns G Y hm hb hi hk bits hg => ?_
  obtain ⟨fd, e1, e2⟩ := F w mg fa _ (hY w _ Y) G.T.g hm
  refine JO (hY w _ Y) G.T.g G.T.b G.T.builtins G.T.nolimit hg hb hi (Nat.le_trans hk (Nat.le_trans hn2 (by decide))) hr e2 e1 (fun H hO hS => ?_) fun _ _ _ z => z
  refine ⟨⟨H, fun _ => none, fun _ => none⟩, fun _ => none, [.d (.list (ns.map .int))], fun w _ => w = .d (.bool true), ?_, .cons ⟨a, _, rfl, hS, Yr ns⟩ .nil, hs ns _ _ hk bits fun _ => rfl, ?_⟩
  · exact ⟨Same.refl _, fun _ _ e => (by cases e), fun _ _ e => (by cases e), fun _ _ e => (by cases e), fun _ _ e => (by cases e), fun _ _ e => (by cases e), fun _ _ e => (by cases e), fun _ _ _ _ _ _ _ e => (by cases e)⟩
  · rintro Γ' O' H' w v _ _ r rfl
    exact r
end L2
namespace K16
open PySem L2
local macro_rules | `(tactic| walk_at "ref") => `(tactic| repeat' (first
  | with_reducible exact zda
  | with_reducible exact za9
  | with_reducible exact zba
  | with_reducible exact zct
  | with_reducible exact zbb
  | with_reducible apply zcu
  | with_reducible exact zdN
  | with_reducible exact zdO
  | with_reducible exact zdz
  | with_reducible exact zdA
  | with_reducible exact zdb
  | with_reducible exact zby
  | with_reducible exact zdD
  | with_reducible exact zcA
  | with_reducible exact zdc
  | with_reducible exact zdF
  | with_reducible exact zdG
  | with_reducible exact zdK
  | with_reducible exact zej
  | with_reducible exact zd1
  | with_reducible exact zcX
  | with_reducible exact zc8
  | with_reducible apply zcv
  | exact zel (fun _ => rfl)
  | exact zdM (fun _ _ => rfl)
  | exact zek (fun _ _ => rfl)
  | with_reducible apply Kv
  | with_reducible apply J2
  | with_reducible apply J3
  | with_reducible apply zcE
  | with_reducible apply Uc
  | with_reducible apply zdP
  | with_reducible apply zbc
  | with_reducible apply zcD
  | with_reducible apply zbd
  | with_reducible apply Kr
  | with_reducible exact zbw
  | with_reducible exact zbf
  | with_reducible apply zbs
  | with_reducible apply J7
  | with_reducible exact zcT rfl
  | with_reducible exact zc9
  | with_reducible apply zbh
  | with_reducible apply zbi
  | with_reducible apply Ko
  | with_reducible exact Kp
  | with_reducible apply Jf
  | with_reducible apply Jg
  | with_reducible apply J9
  | with_reducible apply J8
  | with_reducible apply Yw
  | with_reducible apply zcH
  | with_reducible exact zc4
  | with_reducible exact zcI
  | with_reducible exact zei
  | with_reducible exact zc6
  | with_reducible exact zdQ
  | with_reducible apply Yw
  | with_reducible exact zdX
  | with_reducible exact zdY
  | with_reducible exact zbC
  | with_reducible apply zcQ
  | with_reducible apply zbt
  | with_reducible apply zbu
  | with_reducible apply zdd
  | with_reducible apply Kx
  | with_reducible apply Jb
  | with_reducible apply Kl
  | with_reducible exact RefPs.nil
  | with_reducible apply RefPs.cons
  | with_reducible apply zcR
  | with_reducible exact Km
  | with_reducible exact Kn
  | with_reducible apply Ks
  | with_reducible apply zbl
  | with_reducible exact Kd
  | with_reducible exact Q3
  | with_reducible apply Ke
  | with_reducible apply zbm
  | with_reducible apply zbn
  | with_reducible apply zbo
  | with_reducible exact Kg
  | with_reducible apply Ki
  | with_reducible exact Kh
  | with_reducible apply Q4
  | with_reducible apply Kj
  | with_reducible apply zbq
  | with_reducible apply zbz
  | with_reducible apply Ky
  | with_reducible apply zbp
  | with_reducible apply Q5
  | with_reducible apply Kk
  | with_reducible apply Q6
  | with_reducible apply Q7
  | with_reducible apply Q8))
local macro_rules | `(tactic| walk_at "wd") => `(tactic| ((try dsimp only [UP, List.getElem?_cons_zero, List.getElem?_cons_succ, wC, wOp, vI0, vI, wUn, vU, vEq, vNe, UQ, YT, YU, Xw, J0, wOr, J1, wIf, J6, UI, wCs, Zs, wCB, vI2, Kw, UR, Xx, Xy, uf, UK, UL, Kb, zdI, Kc, Kf, UM, ofV, jG, List.set, List.map, ua, List.append, List.nil_append, List.cons_append]); try simp [UP, wC, wOp, vI0, vI, wUn, vU, vEq, vNe, zcw, zcx, UQ, YT, zcz, zag, Ku, zcB, zcC, zcV, wIn, zdn, zaw, zaA, Xw, zah, zai, wIf, YU, J0, wOr, J1, J5, J6, UI, wCs, zcF, zcG, zat, zav, Zs, zak, zaj, Jk, Jl, zdk, zaG, wCB, Ka, zal, Xr, Xs, vI2, Kw, Xx, Ja, zar, Zu, wBM, V6, V7, uf, UK, UL, Kb, Kc, Kf, UM, zcL, zcK, zam, zcM, zcS, UR, Xy, zcP, zan, zcO, zao, zap, zaq, wLc, zc2, zc3, Kq, zaB, YR, xw, ua, ofV, vOf, scD, kI, xS, Xo, xz, jG, UH, Xp, tyD, isI, yP, and_assoc, wCR, Kq, uM, sI1, sI2, sI3, ja, km, uN, Zw, Zx, Zy, qJ, YW, zh, zn, vA, yL, xm]))
noncomputable def top (i : Nat) : Stmt := PySem.Challenge.pw_signscreen_k16_whole_cells_kept.main.body.getD i (.Pass ⟨0, 0, 0, 0⟩)
local macro_rules | `(tactic| walk_at "sc") => `(tactic| exact ⟨rfl, rfl, rfl, by decide +kernel, rfl, by decide +kernel, by decide +kernel⟩)
noncomputable abbrev je : Stmt := top 6
theorem Vx : FnScope ["thing", "least", "most"] ["thing", "least", "most"] (defScope je) := by walk_at "sc"
noncomputable abbrev jP : Stmt := top 7
theorem Qj : FnScope ["ink"] ["ink"] (defScope jP) := by walk_at "sc"
noncomputable abbrev jQ : Stmt := top 8
theorem Qk : FnScope ["ink"] ["ink"] (defScope jQ) := by walk_at "sc"
noncomputable abbrev jf : Stmt := top 9
theorem Vy : FnScope ["ink"] ["ink"] (defScope jf) := by walk_at "sc"
noncomputable abbrev uQ : Stmt := top 10
theorem Js : FnScope ["fore", "back", "marks"] ["fore", "back", "marks"] (defScope uQ) := by walk_at "sc"
noncomputable abbrev qo : Stmt := top 11
theorem XU : FnScope ["ink", "hue"] ["ink", "hue"] (defScope qo) := by walk_at "sc"
noncomputable abbrev qp : Stmt := top 12
theorem XV : FnScope ["ink", "hue"] ["ink", "hue"] (defScope qp) := by walk_at "sc"
noncomputable abbrev qq : Stmt := top 13
theorem XW : FnScope ["ink", "mark"] ["ink", "mark"] (defScope qq) := by walk_at "sc"
noncomputable abbrev vP : Stmt := top 14
theorem ZL : FnScope ["ink", "mark"] ["ink", "mark"] (defScope vP) := by walk_at "sc"
noncomputable abbrev vQ : Stmt := top 15
theorem ZM : FnScope ["ink"] ["ink"] (defScope vQ) := by walk_at "sc"
noncomputable abbrev jR : Stmt := top 19
theorem Ql : FnScope ["wide", "high"] ["wide", "high"] (defScope jR) := by walk_at "sc"
noncomputable abbrev vp : Stmt := top 20
theorem XX : FnScope ["wide", "ink"] ["wide", "ink"] (defScope vp) := by walk_at "sc"
noncomputable abbrev xE : Stmt := top 21
theorem kW : FnScope ["wide", "high", "ink"] ["wide", "high", "ink"] (defScope xE) := by walk_at "sc"
noncomputable abbrev kX : Stmt := top 22
theorem Jt : FnScope ["picture"] ["picture"] (defScope kX) := by walk_at "sc"
noncomputable abbrev xb : Stmt := VY (top 25) 0
theorem ko : FnScope ["self", "wide", "high"] ["self", "wide", "high"] (defScope xb) := by walk_at "sc"
noncomputable abbrev xu : Stmt := VY (top 25) 1
theorem Yc : FnScope ["self"] ["self"] (defScope xu) := by walk_at "sc"
noncomputable abbrev ug : Stmt := top 26
theorem Yd : FnScope ["wide"] ["wide"] (defScope ug) := by walk_at "sc"
noncomputable abbrev Ye : Stmt := top 27
theorem XY : FnScope ["state", "top", "bottom", "left", "right"] ["state"] (defScope Ye) := by walk_at "sc"
noncomputable abbrev vR : Stmt := top 28
theorem ZN : FnScope ["many"] ["many"] (defScope vR) := by walk_at "sc"
noncomputable abbrev jg : Stmt := top 29
theorem Vz : FnScope ["state"] ["state"] (defScope jg) := by walk_at "sc"
noncomputable abbrev vS : Stmt := top 31
theorem ZO : FnScope ["state"] ["state"] (defScope vS) := by walk_at "sc"
noncomputable abbrev jS : Stmt := top 32
theorem Qm : FnScope ["number", "first", "last"] ["number", "first", "last"] (defScope jS) := by walk_at "sc"
noncomputable abbrev jh : Stmt := top 33
theorem VA : FnScope ["state", "row", "column"] ["state", "row", "column"] (defScope jh) := by walk_at "sc"
noncomputable abbrev jT : Stmt := top 34
theorem Qn : FnScope ["state"] ["state"] (defScope jT) := by walk_at "sc"
noncomputable abbrev qr : Stmt := top 36
theorem jU : FnScope ["state", "first", "step", "old", "row", "source", "inside", "column"] ["state", "first", "step"] (defScope qr) := by walk_at "sc"
noncomputable abbrev jV : Stmt := top 37
theorem Qo : FnScope ["state", "first", "times"] ["state", "first", "times"] (defScope jV) := by walk_at "sc"
noncomputable abbrev qt : Stmt := top 38
theorem XZ : FnScope ["state", "first", "times"] ["state", "first", "times"] (defScope qt) := by walk_at "sc"
noncomputable abbrev X0 : Stmt := top 39
theorem zbJ : FnScope ["state", "letter", "many"] ["state", "letter", "many"] (defScope X0) := by walk_at "sc"
noncomputable abbrev qu : Stmt := top 40
theorem X1 : FnScope ["state", "many"] ["state", "many"] (defScope qu) := by walk_at "sc"
noncomputable abbrev qv : Stmt := top 41
theorem X2 : FnScope ["state", "many"] ["state", "many"] (defScope qv) := by walk_at "sc"
noncomputable abbrev uR : Stmt := top 43
theorem jm : FnScope ["state", "step", "right", "line", "old", "column", "source", "inside"] ["state", "step"] (defScope uR) := by walk_at "sc"
noncomputable abbrev qw : Stmt := top 44
theorem X3 : FnScope ["state", "many"] ["state", "many"] (defScope qw) := by walk_at "sc"
noncomputable abbrev qy : Stmt := top 45
theorem X4 : FnScope ["state", "many"] ["state", "many"] (defScope qy) := by walk_at "sc"
noncomputable abbrev uh : Stmt := top 46
theorem qM : FnScope ["state", "first", "behind", "place"] ["state", "first", "behind"] (defScope uh) := by walk_at "sc"
noncomputable abbrev uS : Stmt := top 47
theorem jn : FnScope ["state", "many", "row_begin", "behind"] ["state", "many"] (defScope uS) := by walk_at "sc"
noncomputable abbrev X5 : Stmt := top 48
theorem Ue : FnScope ["state", "way", "row_begin", "row_end", "cursor", "picture_end", "spans", "span"] ["state", "way"] (defScope X5) := by walk_at "sc"
noncomputable abbrev ji : Stmt := top 50
theorem VB : FnScope ["state"] ["state"] (defScope ji) := by walk_at "sc"
noncomputable abbrev jj : Stmt := top 51
theorem VC : FnScope ["state", "sign"] ["state", "sign"] (defScope jj) := by walk_at "sc"
noncomputable abbrev X6 : Stmt := top 53
theorem Uf : FnScope ["first", "last", "size", "begin", "end"] ["first", "last", "size"] (defScope X6) := by walk_at "sc"
noncomputable abbrev jk : Stmt := top 54
theorem kG : FnScope ["state", "first", "last", "rows"] ["state", "first", "last"] (defScope jk) := by walk_at "sc"
noncomputable abbrev ui : Stmt := top 55
theorem qN : FnScope ["state", "first", "last", "columns"] ["state", "first", "last"] (defScope ui) := by walk_at "sc"
noncomputable abbrev X7 : Stmt := top 56
theorem zbK : FnScope ["ink", "number"] ["ink", "number"] (defScope X7) := by walk_at "sc"
noncomputable abbrev Qp : Stmt := top 57
theorem Ju : FnScope ["state", "numbers", "number"] ["state", "numbers"] (defScope Qp) := by walk_at "sc"
noncomputable abbrev uT : Stmt := top 58
theorem jo : FnScope ["state", "numbers", "on", "turned_on", "number"] ["state", "numbers", "on"] (defScope uT) := by walk_at "sc"
noncomputable abbrev vT : Stmt := top 60
theorem ZP : FnScope ["_law_script", "_law_k"] ["_law_script", "_law_k"] (defScope vT) := by walk_at "sc"
noncomputable abbrev uU : Stmt := top 61
theorem jp : FnScope ["_law_cell", "_law_k", "_law_number"] ["_law_cell", "_law_k"] (defScope uU) := by walk_at "sc"
noncomputable abbrev vc : Stmt := top 62
theorem vG : FnScope ["_law_cell", "_law_wide", "_law_high", "_law_signs", "_law_begin", "_law_rows", "_law_row", "_law_line", "_law_column", "_law_k", "_law_sign_here"] ["_law_cell", "_law_wide", "_law_high"] (defScope vc) := by walk_at "sc"
noncomputable abbrev uV : Stmt := top 63
theorem jq : FnScope ["_law_cell", "_law_number", "_law_way", "_law_tall", "_law_wide"] ["_law_cell"] (defScope uV) := by walk_at "sc"
noncomputable abbrev uW : Stmt := top 64
theorem YG : FnScope ["_law_many"] ["_law_many"] (defScope uW) := by walk_at "sc"
noncomputable abbrev vh : Stmt := top 65
theorem jW : FnScope ["_law_own"] ["_law_own"] (defScope vh) := by walk_at "sc"
noncomputable abbrev uX : Stmt := top 66
theorem jr : FnScope ["_law_own", "_law_number", "_law_row", "_law_column", "_law_rows", "_law_columns"] ["_law_own", "_law_number"] (defScope uX) := by walk_at "sc"
noncomputable abbrev uj : Stmt := top 67
theorem qO : FnScope ["_law_script", "_law_wide", "_law_high", "_law_place_here", "_law_edge", "_law_mode", "_law_own"] ["_law_script"] (defScope uj) := by walk_at "sc"
noncomputable abbrev qz : Stmt := top 68
theorem jX : FnScope ["_law_ink", "_law_marks"] ["_law_ink"] (defScope qz) := by walk_at "sc"
noncomputable abbrev vE : Stmt := top 69
theorem uY : FnScope ["_law_state_here", "_law_own", "_law_row", "_law_column"] ["_law_state_here", "_law_own"] (defScope vE) := by walk_at "sc"
noncomputable abbrev uZ : Stmt := top 70
theorem jt : FnScope ["_law_own", "_law_state_here", "_law_row", "_law_column"] ["_law_own"] (defScope uZ) := by walk_at "sc"
noncomputable abbrev vV : Stmt := top 71
theorem ZQ : FnScope ["_law_state_here", "_law_own", "_law_number"] ["_law_state_here", "_law_own", "_law_number"] (defScope vV) := by walk_at "sc"
noncomputable abbrev u3 : Stmt := top 72
theorem ju : FnScope ["_law_state_here", "_law_own", "_law_names", "_law_found"] ["_law_state_here", "_law_own"] (defScope u3) := by walk_at "sc"
noncomputable abbrev vw : Stmt := top 73
theorem uk : FnScope ["_law_own", "_law_first", "_law_down", "_law_row", "_law_column", "_law_is_in"] ["_law_own", "_law_first", "_law_down", "_law_row", "_law_column"] (defScope vw) := by walk_at "sc"
noncomputable abbrev vj : Stmt := top 74
theorem ud : FnScope ["_law_own", "_law_across", "_law_row", "_law_column", "_law_edge"] ["_law_own", "_law_across", "_law_row", "_law_column"] (defScope vj) := by walk_at "sc"
noncomputable abbrev vk : Stmt := top 75
theorem ue : FnScope ["_law_own", "_law_way", "_law_row", "_law_column", "_law_here", "_law_place_here", "_law_wiped"] ["_law_own", "_law_way", "_law_row", "_law_column"] (defScope vk) := by walk_at "sc"
noncomputable abbrev qA : Stmt := top 76
theorem jY : FnScope ["_law_own", "_law_letter", "_law_many", "_law_row", "_law_column", "_law_times_here", "_law_begin", "_law_is_wiped"] ["_law_own", "_law_letter", "_law_many", "_law_row", "_law_column"] (defScope qA) := by walk_at "sc"
noncomputable abbrev jl : Stmt := top 77
theorem kH : FnScope ["_law_own", "_law_letter", "_law_many", "_law_fresh", "_law_row", "_law_line", "_law_column", "_law_place_here"] ["_law_own", "_law_letter", "_law_many"] (defScope jl) := by walk_at "sc"
noncomputable abbrev vF : Stmt := top 78
theorem u4 : FnScope ["_law_own"] ["_law_own"] (defScope vF) := by walk_at "sc"
noncomputable abbrev qB : Stmt := top 79
theorem jZ : FnScope ["_law_own", "_law_sign_here", "_law_edge"] ["_law_own", "_law_sign_here"] (defScope qB) := by walk_at "sc"
noncomputable abbrev qC : Stmt := top 80
theorem j4 : FnScope ["_law_state_here", "_law_letter", "_law_many"] ["_law_state_here", "_law_letter", "_law_many"] (defScope qC) := by walk_at "sc"
noncomputable abbrev qD : Stmt := top 81
theorem j6 : FnScope ["_law_state_here", "_law_own", "_law_number", "_law_letter", "_law_many", "_law_sign_here"] ["_law_state_here", "_law_own", "_law_number"] (defScope qD) := by walk_at "sc"
noncomputable abbrev vx : Stmt := top 82
theorem ul : FnScope ["_law_state_here", "_law_own", "_law_number", "_law_row", "_law_column"] ["_law_state_here", "_law_own", "_law_number"] (defScope vx) := by walk_at "sc"
noncomputable abbrev qE : Stmt := top 83
theorem X8 : FnScope ["_law_own"] ["_law_own"] (defScope qE) := by walk_at "sc"
noncomputable abbrev Qq : Stmt := top 84
theorem Jv : FnScope ["_law_script", "_law_own", "_law_state_here", "_law_k", "_law_number"] ["_law_script"] (defScope Qq) := by walk_at "sc"
structure Txt (K : PySem.W.Frag) (mg : Str → Option Value) (C : Addr) : Prop where
  n_len : mg "len" = none
  n_range : mg "range" = none
  n_int : mg "int" = none
  n_bool : mg "bool" = none
  n_dict : mg "dict" = none
  n_list : mg "list" = none
  n_tuple : mg "tuple" = none
  n_isinstance : mg "isinstance" = none
  n_sorted : mg "sorted" = none
  n_min : mg "min" = none
  n_max : mg "max" = none
  g_WIDEST : ∃ t, mg "WIDEST" = some (.int 24 t)
  g_HIGHEST : ∃ t, mg "HIGHEST" = some (.int 12 t)
  g_TAB_STEP : ∃ t, mg "TAB_STEP" = some (.int 4 t)
  g_ALL_MARKS : ∃ t, mg "ALL_MARKS" = some (.int 448 t)
  g_BITS_BY_MARK : ∃ a, mg "BITS_BY_MARK" = some (.ref a) ∧ DK K a [(0, 64), (1, 128), (2, 256)]
  mgC : mg "State" = some (.ref C)
  st : Sta K C
section
variable {P : Program} {w : World} {K : PySem.W.Frag} {mg : Str → Option Value} {base : Heap} {f C : Addr} {fd : FuncData}
theorem ZR (F : Fun K "at_least_one" "at_least_one" vR f fd) (T : Txt K mg C) : FnOk P w K mg base CX0 1 f fd ["many"] (zb K uM) := by
  apply F.okV ZN (by rintro _ _ _ ⟨n, rfl, _⟩; rfl) (fun cdv A outer sh H E hr => (ze (zY (xg (zW vB (pv 0) yZ (zJ _)) zc (y7 (jx rfl) (by rfl) T.n_max (by rfl) (QA.pa (qc zc (qc (pv 0) qn))))))))
  · walk_at "ref"
  rintro _ O R ⟨n, rfl, hn, h⟩
  rcases hn.cs with rfl | ⟨i, rfl, h0, h1⟩
  · walk_at "wd"
    exact .inl h
  · walk_at "wd"
    exact .inl h
theorem Qr (F : Fun K "counted" "counted" jS f fd) (T : Txt K mg C) (zf2 : Cal P w K mg base 1 "at_least_one" [] (zb K uM)) : FnOk P w K mg base CX0 2 f fd ["number", "first", "last"] (zb K ja) := by
  apply F.okV Qm (by rintro _ _ _ ⟨n, a, b, rfl, _⟩; rfl) (fun cdv A outer sh H E hr => (ze (zY (y7 (x4 rfl) (by rfl) T.n_min (by rfl) (QA.pa (qc (zg y6 (zg yC (pv 1) (zj zf2 (hr.mono (by decide)) rfl (QA.pa (qc (pv 0) qn)))) zc) (qc (pv 2) qn)))))))
  · walk_at "ref"
  rintro _ O R ⟨n, a, b, rfl, hn, h⟩
  walk_at "wd"
  exact ⟨hn, .inl h⟩
theorem Yf (F : Fun K "_law_cell_at" "_law_cell_at" vT f fd) (T : Txt K mg C) : FnOk P w K mg base CX0 1 f fd ["_law_script", "_law_k"] (zb K km) := by
  apply F.okV ZP (by rintro _ _ _ ⟨n, a, rfl, _⟩; rfl) (fun cdv A outer sh H E hr => (za (yA (zW qT (pv 1) (y7 (Je (K := K) rfl) (by rfl) T.n_len (by rfl) (QA.pa (qc (pv 0) qn))) (zJ _)) (ze (zY (yM (yY (K := K) rfl) (pv 0) (pv 1) (fun _ _ => rfl)))) z0)
      (ze (zY zc))))
  · walk_at "ref"
  rintro _ O R ⟨ns, k, rfl, h⟩
  walk_at "wd"
  simp [UJ, xz, yS]
  split
  · rename_i hk
    refine ⟨_, ut (by rw [List.getElem?_map, List.getElem?_eq_getElem hk]; rfl), .inl ?_⟩
    rw [List.getD_eq_getElem?_getD, List.getElem?_eq_getElem hk] at h
    exact h
  · rename_i hk
    rw [List.getD_eq_getElem?_getD, List.getElem?_eq_none (by omega)] at h
    exact .inl h
theorem X9 (F : Fun K "_law_mixed" "_law_mixed" uU f fd) (T : Txt K mg C) : FnOk P w K mg base CX0 1 f fd ["_law_cell", "_law_k"] (zb K uN) := by
  have nd := jp.nd
  apply F.okV jp (by rintro _ _ _ ⟨n, a, rfl, _⟩; rfl) (fun cdv A outer sh H E hr => (za (zZ (i := 2) nd rfl (Or.inl rfl) (zg yC (zg yC (pv 0) (zg xB zc (pv 1))) zc))
      (ze (zY (zg yH (zg xB (zg yH (zg xB (pv 2) (pv 2)) zc) zc) zc)))))
  · walk_at "ref"
  rintro _ O R ⟨c, k, rfl, h0, h1, hb, h⟩
  walk_at "wd"
  have b1 : Bt 1048602 (c + 7919 * k + 3) := (Bt.add (Bt.add hb ((Bt.small (a := 7919 * k) (by omega) (by omega)).mono (by decide))) ((Bt.small (a := 3) (by omega) (by omega)).mono (by decide)))
  exact ⟨mulL (by omega) (by omega), b1.mul b1 (by decide), mulR (by omega) (by omega), .inl h⟩
theorem Va (F : Fun K "_law_times" "_law_times" uW f fd) (T : Txt K mg C) : FnOk P w K mg base CX0 1 f fd ["_law_many"] (zb K Zw) := by
  apply F.okV YG (by rintro _ _ _ ⟨n, rfl, _⟩; rfl) (fun cdv A outer sh H E hr => (ze (zY (xg (PW.pt (qS (zW vB (pv 0) yZ (zJ _)) (uB (zW yX (pv 0) zc (zJ _))))) zc (pv 0)))))
  · walk_at "ref"
  rintro _ O R ⟨n, rfl, hn, h⟩
  rcases hn.cs with rfl | ⟨i, rfl, h0, h1⟩
  · walk_at "wd"
    exact .inl h
  · walk_at "wd"
    simp only [US] at h
    split
    · rename_i e; rw [if_pos e] at h; exact .inl h
    · rename_i e; rw [if_neg e] at h; exact .inl h
theorem VD (F : Fun K "is_whole" "is_whole" je f fd) (T : Txt K mg C) : FnOk P w K mg base CX0 1 f fd ["thing", "least", "most"] (zb K Zx) := by
  apply F.okV Vx (by rintro _ _ _ ⟨n, a, b, rfl, _⟩; rfl) (fun cdv A outer sh H E hr => (ze (zY (jv (y7 (jI (K := K) rfl) (by rfl) T.n_isinstance (by rfl) (QA.pa (qc (pv 0) (qc (ZZ (v := .ty "int") (u := .type "int") rfl T.n_int rfl rfl) qn)))) (jv (zbW (y7 (jI (K := K) rfl) (by rfl) T.n_isinstance (by rfl) (QA.pa (qc (pv 0) (qc (ZZ (v := .ty "bool") (u := .type "bool") rfl T.n_bool rfl rfl) qn))))) (k8 (uC yN yN (pv 1) (pv 0) (pv 2))))))))
  · walk_at "ref"
  rintro _ O R ⟨n, lo, hi, rfl, h⟩
  walk_at "wd"
  split
  · rename_i h1; simp [h1] at h; exact .inl h
  · rename_i h1; simp [h1] at h; exact .inl h
theorem Qs (F : Fun K "is_size" "is_size" jR f fd) (T : Txt K mg C) (zgl : Cal P w K mg base 1 "is_whole" [] (zb K Zx)) : FnOk P w K mg base CX0 2 f fd ["wide", "high"] (zb K UT) := by
  apply F.okV Ql (by rintro _ _ _ ⟨a, b, rfl, _⟩; rfl) (fun cdv A outer sh H E hr => (ze (zY (jv (zj zgl (hr.mono (by decide)) rfl (QA.pa (qc (pv 0) (qc zc (qc (Zp rfl T.g_WIDEST) qn))))) (k8 (zj zgl (hr.mono (by decide)) rfl (QA.pa (qc (pv 1) (qc zc (qc (Zp rfl T.g_HIGHEST) qn))))))))))
  · walk_at "ref"
  rintro _ O R ⟨a, b, rfl, a1, a2, b1, b2, h⟩
  walk_at "wd"
  have e1 : (1 : Int) ≤ a ∧ (a : Int) ≤ 24 := by omega
  have e2 : (1 : Int) ≤ b ∧ (b : Int) ≤ 12 := by omega
  simp [e1, e2]
  exact .inl h
theorem zbL (F : Fun K "span" "span" X6 f fd) (T : Txt K mg C) (zf2 : Cal P w K mg base 1 "at_least_one" [] (zb K uM)) : FnOk P w K mg base CX0 2 f fd ["first", "last", "size"] (zb K Zy) := by
  have nd := Uf.nd
  apply F.okV Uf (by rintro _ _ _ ⟨n, a, b, rfl, _⟩; rfl) (fun cdv A outer sh H E hr => (za (zZ (i := 3) nd rfl (Or.inl rfl) (zj zf2 (hr.mono (by decide)) rfl (QA.pa (qc (pv 0) qn))))
      (za (zZ (i := 4) nd rfl (Or.inl rfl) (xg (Yt (K := K) rfl (pv 1) (fun _ => rfl)) (y7 (x4 rfl) (by rfl) T.n_min (by rfl) (QA.pa (qc (pv 1) (qc (pv 2) qn)))) (pv 2)))
      (ze (zY (xg (zW Zb (pv 3) (pv 4) (zJ _)) yZ (yD (qc (zg y6 (pv 3) zc) (qc (zg y6 (pv 4) zc) qn)))))))))
  · walk_at "ref"
  rintro _ O R ⟨n, m, s, rfl, hn, hm, h⟩
  simp only [YV] at h
  have fin : ∀ E : Int, va m s = E → if E < yJ n then Clo R (.d .none) O else Clo R (.d (.tuple [.int (yJ n - 1), .int (E - 1)])) O := by
    rintro E rfl
    split
    · rename_i e; rw [if_pos e] at h; exact .inl h
    · rename_i e; rw [if_neg e] at h; exact .inl h
  rcases hm.cs with rfl | ⟨i, rfl, h0, h1⟩
  · walk_at "wd"
    exact ⟨hn, fin s rfl⟩
  · walk_at "wd"
    refine ⟨hn, ?_⟩
    by_cases hi : i = 0
    · first | exact .inl ⟨hi, fin s (by simp [va, hi])⟩ | (rw [if_pos hi]; exact fin s (by simp [va, hi]))
    · first | exact .inr ⟨hi, fin _ (by simp [va, hi])⟩ | (rw [if_neg hi]; exact fin _ (by simp [va, hi]))
theorem Qt (F : Fun K "fore_of" "fore_of" jP f fd) (T : Txt K mg C) : FnOk P w K mg base CX0 1 f fd ["ink"] (zb K (sI1 (fun _ => True) fun i => Builtin.bitAnd i 7)) := by
  apply F.okV Qj (by rintro _ _ _ ⟨n, rfl, _⟩; rfl) (fun cdv A outer sh H E hr => (ze (zY (zg Za (pv 0) zc))))
  · walk_at "ref"
  rintro _ O R ⟨n, rfl, _, h⟩
  walk_at "wd"
  exact .inl h
theorem Qu (F : Fun K "back_of" "back_of" jQ f fd) (T : Txt K mg C) : FnOk P w K mg base CX0 1 f fd ["ink"] (zb K (sI1 (fun _ => True) fun i => Builtin.bitAnd (i / 8) 7)) := by
  apply F.okV Qk (by rintro _ _ _ ⟨n, rfl, _⟩; rfl) (fun cdv A outer sh H E hr => (ze (zY (zg Za (zg QH (pv 0) zc) zc))))
  · walk_at "ref"
  rintro _ O R ⟨n, rfl, _, h⟩
  walk_at "wd"
  exact .inl h
theorem VE (F : Fun K "marks_of" "marks_of" jf f fd) (T : Txt K mg C) : FnOk P w K mg base CX0 1 f fd ["ink"] (zb K (sI1 (fun _ => True) fun i => Builtin.bitAnd (i / 64) 7)) := by
  apply F.okV Vy (by rintro _ _ _ ⟨n, rfl, _⟩; rfl) (fun cdv A outer sh H E hr => (ze (zY (zg Za (zg QH (pv 0) zc) zc))))
  · walk_at "ref"
  rintro _ O R ⟨n, rfl, _, h⟩
  walk_at "wd"
  exact .inl h
theorem YC {d : Value} (F : FunD K "ink_of" "ink_of" uQ [d] f fd) (T : Txt K mg C) : FnOk P w K mg base CX0 1 f fd ["fore", "back", "marks"] (zb K qJ) := by
  apply F.okV Js (by rintro _ _ _ ⟨n, a, b, rfl, _⟩; rfl) (fun cdv A outer sh H E hr => (ze (zY (zg yC (zg yC (pv 0) (zg xB zc (pv 1))) (zg xB zc (pv 2))))))
  · walk_at "ref"
  rintro _ O R ⟨a, b, c, rfl, ⟨b1, b2, c1, c2⟩, h⟩
  walk_at "wd"
  exact ⟨mulL (by omega) (by omega), mulL (by omega) (by omega), .inl h⟩
theorem ZS (F : Fun K "turned_marks" "turned_marks" vQ f fd) (T : Txt K mg C) : FnOk P w K mg base CX0 1 f fd ["ink"] (zb K (sI1 (fun _ => True) fun i => Builtin.bitXor i 448)) := by
  apply F.okV ZM (by rintro _ _ _ ⟨n, rfl, _⟩; rfl) (fun cdv A outer sh H E hr => (ze (zY (zg zb7 (pv 0) (Zp rfl T.g_ALL_MARKS)))))
  · walk_at "ref"
  rintro _ O R ⟨n, rfl, _, h⟩
  walk_at "wd"
  exact .inl h
theorem Vb (F : Fun K "with_mark" "with_mark" qq f fd) (T : Txt K mg C) : FnOk P w K mg base CX0 1 f fd ["ink", "mark"] (zb K (sI2 (fun _ _ => True) fun i m => Builtin.bitOr i ((xJ [(0, 64), (1, 128), (2, 256)] m).getD 0))) := by
  obtain ⟨aB, hB, dB⟩ := T.g_BITS_BY_MARK
  apply F.okV XW (by rintro _ _ _ ⟨n, m, rfl, _⟩; rfl) (fun cdv A outer sh H E hr => (ze (zY (zg zdr (pv 0) (Xu (K := K) rfl (ZY (v := .ref aB) (u := .ref aB) rfl hB rfl) (QA.pa (qc (pv 1) (qc zc qn))))))))
  · walk_at "ref"
  rintro _ O R ⟨n, m, rfl, _, h⟩
  walk_at "wd"
  exact ⟨_, dB, .inl h⟩
theorem ZT (F : Fun K "without_mark" "without_mark" vP f fd) (T : Txt K mg C) : FnOk P w K mg base CX0 1 f fd ["ink", "mark"] (zb K (sI2 (fun _ _ => True) fun i m => Builtin.bitAnd i (Builtin.bitNot ((xJ [(0, 64), (1, 128), (2, 256)] m).getD 0)))) := by
  obtain ⟨aB, hB, dB⟩ := T.g_BITS_BY_MARK
  apply F.okV ZL (by rintro _ _ _ ⟨n, m, rfl, _⟩; rfl) (fun cdv A outer sh H E hr => (ze (zY (zg Za (pv 0) (Ul zb8 (Xu (K := K) rfl (ZY (v := .ref aB) (u := .ref aB) rfl hB rfl) (QA.pa (qc (pv 1) (qc zc qn)))))))))
  · walk_at "ref"
  rintro _ O R ⟨n, m, rfl, _, h⟩
  walk_at "wd"
  exact ⟨_, dB, .inl h⟩
end
section
variable {P : Program} {w : World} {K : PySem.W.Frag} {mg : Str → Option Value} {base : Heap} {f C : Addr} {fd : FuncData}
theorem Vc (F : Fun K "with_fore" "with_fore" qo f fd) (T : Txt K mg C) (zgi : Cal P w K mg base 1 "ink_of" [] (zb K qJ)) (zf3 : Cal P w K mg base 1 "back_of" [] (zb K (sI1 (fun _ => True) fun i => Builtin.bitAnd (i / 8) 7))) (zgn : Cal P w K mg base 1 "marks_of" [] (zb K (sI1 (fun _ => True) fun i => Builtin.bitAnd (i / 64) 7))) :
    FnOk P w K mg base CX0 2 f fd ["ink", "hue"] (zb K (sI2 (fun i _ => Ink i) fun i h => h + 8 * Builtin.bitAnd (i / 8) 7 + 64 * Builtin.bitAnd (i / 64) 7)) := by
  apply F.okV XU (by rintro _ _ _ ⟨n, m, rfl, _⟩; rfl) (fun cdv A outer sh H E hr => (ze (zY (zj zgi (hr.mono (by decide)) rfl (QA.pa (qc (pv 1) (qc (zj zf3 (hr.mono (by decide)) rfl (QA.pa (qc (pv 0) qn))) (qc (zj zgn (hr.mono (by decide)) rfl (QA.pa (qc (pv 0) qn))) qn))))))))
  · walk_at "ref"
  rintro _ O R ⟨n, m, rfl, hi, h⟩
  have a1 := KA hi
  have a2 := Yv hi
  walk_at "wd"
  exact ⟨by omega, by omega, by omega, by omega, .inl h⟩
theorem Vd (F : Fun K "with_back" "with_back" qp f fd) (T : Txt K mg C) (zgi : Cal P w K mg base 1 "ink_of" [] (zb K qJ)) (zgh : Cal P w K mg base 1 "fore_of" [] (zb K (sI1 (fun _ => True) fun i => Builtin.bitAnd i 7))) (zgn : Cal P w K mg base 1 "marks_of" [] (zb K (sI1 (fun _ => True) fun i => Builtin.bitAnd (i / 64) 7))) :
    FnOk P w K mg base CX0 2 f fd ["ink", "hue"] (zb K (sI2 (fun i h => Ink i ∧ 0 ≤ h ∧ h ≤ 10) fun i h => Builtin.bitAnd i 7 + 8 * h + 64 * Builtin.bitAnd (i / 64) 7)) := by
  apply F.okV XV (by rintro _ _ _ ⟨n, m, rfl, _⟩; rfl) (fun cdv A outer sh H E hr => (ze (zY (zj zgi (hr.mono (by decide)) rfl (QA.pa (qc (zj zgh (hr.mono (by decide)) rfl (QA.pa (qc (pv 0) qn))) (qc (pv 1) (qc (zj zgn (hr.mono (by decide)) rfl (QA.pa (qc (pv 0) qn))) qn))))))))
  · walk_at "ref"
  rintro _ O R ⟨n, m, rfl, ⟨hi, m1, m2⟩, h⟩
  have a2 := Yv hi
  walk_at "wd"
  exact ⟨by omega, by omega, by omega, by omega, .inl h⟩
theorem zbM (F : Fun K "dyed" "dyed" X7 f fd) (T : Txt K mg C) (zgJ : Cal P w K mg base 1 "with_mark" [] (zb K (sI2 (fun _ _ => True) fun i m => Builtin.bitOr i ((xJ [(0, 64), (1, 128), (2, 256)] m).getD 0))))
    (zgK : Cal P w K mg base 1 "without_mark" [] (zb K (sI2 (fun _ _ => True) fun i m => Builtin.bitAnd i (Builtin.bitNot ((xJ [(0, 64), (1, 128), (2, 256)] m).getD 0))))) (zgD : Cal P w K mg base 1 "turned_marks" [] (zb K (sI1 (fun _ => True) fun i => Builtin.bitXor i 448)))
    (zgI : Cal P w K mg base 2 "with_fore" [] (zb K (sI2 (fun i _ => Ink i) fun i h => h + 8 * Builtin.bitAnd (i / 8) 7 + 64 * Builtin.bitAnd (i / 64) 7))) (zgH : Cal P w K mg base 2 "with_back" [] (zb K (sI2 (fun i h => Ink i ∧ 0 ≤ h ∧ h ≤ 10) fun i h => Builtin.bitAnd i 7 + 8 * h + 64 * Builtin.bitAnd (i / 64) 7))) :
    FnOk P w K mg base CX0 3 f fd ["ink", "number"] (zb K YW) := by
  apply F.okV zbK (by rintro _ _ _ ⟨n, m, rfl, _⟩; rfl) (fun cdv A outer sh H E hr => (za (yA (PW.pt (qS (zW vB (pv 1) yZ (zJ _)) (uB (zW yX (pv 1) zc (zJ _))))) (ze (zY zc)) z0)
      (za (yA (xC yN yN zc (pv 1) zc) (ze (zY (zj zgJ (hr.mono (by decide)) rfl (QA.pa (qc (pv 0) (qc (zg y6 (pv 1) zc) qn)))))) z0)
      (za (yA (xC yN yN zc (pv 1) zc) (ze (zY (zj zgK (hr.mono (by decide)) rfl (QA.pa (qc (pv 0) (qc (zg y6 (pv 1) zc) qn)))))) z0)
      (za (yA (zW yX (pv 1) zc (zJ _)) (ze (zY (zj zgD (hr.mono (by decide)) rfl (QA.pa (qc (pv 0) qn))))) z0)
      (za (yA (xC yN yN zc (pv 1) zc) (ze (zY (zj zgI (hr.mono (by decide)) rfl (QA.pa (qc (pv 0) (qc (zg y6 (pv 1) zc) qn)))))) z0)
      (za (yA (xC yN yN zc (pv 1) zc) (ze (zY (zj zgH (hr.mono (by decide)) rfl (QA.pa (qc (pv 0) (qc (zg y6 (pv 1) zc) qn)))))) z0)
      (ze (zY (pv 0))))))))))
  · walk_at "ref"
  rintro _ O R ⟨ink, n, rfl, hi, hn, h⟩
  rcases hn.cs with rfl | ⟨i, rfl, h0, h1⟩
  · walk_at "wd"
    exact .inl h
  · have key : ∀ v, vM ink (.int i) = v → Clo R (.d (.int v)) O := fun v e => by rw [e] at h; exact .inl h
    walk_at "wd"
    repeat' split
    all_goals first
      | exact key _ (by simp only [vM]; repeat' (first | rw [if_pos (by omega)] | rw [if_neg (by omega)]))
      | exact ⟨hi, key _ (by simp only [vM]; repeat' (first | rw [if_pos (by omega)] | rw [if_neg (by omega)]))⟩
      | exact ⟨hi, by omega, by omega, key _ (by simp only [vM]; repeat' (first | rw [if_pos (by omega)] | rw [if_neg (by omega)]))⟩
theorem KR (F : Fun K "edges" "edges" Ye f fd) (T : Txt K mg C) : FnOk P w K mg base CX0 1 f fd ["state"] (zb K (jJ C)) := by
  have nd := XY.nd
  apply F.okV XY (by rintro _ _ _ ⟨x, dx, p, st, kp, S, rfl, _⟩; rfl) (fun cdv A outer sh H E hr => (za (zZ (i := 1) nd rfl (Or.inl rfl) (xg (zW Zc (zl (K := K) rfl (pv 0) rfl) (zl (K := K) rfl (pv 0) rfl) (zJ _)) (zl (K := K) rfl (pv 0) rfl) zc))
      (za (zZ (i := 2) nd rfl (Or.inl rfl) (xg (zW yN (zl (K := K) rfl (pv 0) rfl) (zl (K := K) rfl (pv 0) rfl) (zJ _)) (zl (K := K) rfl (pv 0) rfl) (zg y6 (zl (K := K) rfl (pv 0) rfl) zc)))
      (za (zZ (i := 3) nd rfl (Or.inl rfl) (xg (zW Zc (zl (K := K) rfl (pv 0) rfl) (zl (K := K) rfl (pv 0) rfl) (zJ _)) (zl (K := K) rfl (pv 0) rfl) zc))
      (za (zZ (i := 4) nd rfl (Or.inl rfl) (xg (zW yN (zl (K := K) rfl (pv 0) rfl) (zl (K := K) rfl (pv 0) rfl) (zJ _)) (zl (K := K) rfl (pv 0) rfl) (zg y6 (zl (K := K) rfl (pv 0) rfl) zc)))
      (ze (zY (yD (qc (pv 1) (qc (pv 2) (qc (pv 3) (qc (pv 4) qn))))))))))))
  · walk_at "ref"
  rintro _ O R ⟨x, dx, p, st, kp, S, rfl, hs, h⟩
  have hx := hs.x
  refine yt (fun ρ' O' => ρ' = [some (.own x), some (.d (.int (eT S))), none, none, none] ∧ O = O') (fun R1 hR1 => ?_) ?_
  · walk_at "wd"
    simp [hx, and_assoc, zh, T.st.cl, T.st.n_picture, T.st.n_wide, T.st.n_high, T.st.n_row, T.st.n_column, T.st.n_late, T.st.n_ink, T.st.n_wrap, T.st.n_putting, T.st.n_home, T.st.n_top, T.st.n_bottom, T.st.n_left, T.st.n_right, T.st.n_stops, T.st.n_kept, T.st.n_last, zv, z7, z9, yu, zy, ya, yv, yb, zw, yc, yw, zz, yd, zG, zH, ye, yf, yx, zA, yg, yy, yh, zx, yi, yz, zB, yj, zI, yk]
    split
    · rename_i e; exact hR1 _ _ ⟨by rw [eT, if_pos e], rfl⟩
    · rename_i e; exact hR1 _ _ ⟨by rw [eT, if_neg e], rfl⟩
  rintro _ _ ⟨rfl, rfl⟩
  refine yt (fun ρ' O' => ρ' = [some (.own x), some (.d (.int (eT S))), some (.d (.int (eB S))), none, none] ∧ O = O') (fun R1 hR1 => ?_) ?_
  · walk_at "wd"
    simp [hx, and_assoc, zh, T.st.cl, T.st.n_picture, T.st.n_wide, T.st.n_high, T.st.n_row, T.st.n_column, T.st.n_late, T.st.n_ink, T.st.n_wrap, T.st.n_putting, T.st.n_home, T.st.n_top, T.st.n_bottom, T.st.n_left, T.st.n_right, T.st.n_stops, T.st.n_kept, T.st.n_last, zv, z7, z9, yu, zy, ya, yv, yb, zw, yc, yw, zz, yd, zG, zH, ye, yf, yx, zA, yg, yy, yh, zx, yi, yz, zB, yj, zI, yk]
    split
    · rename_i e; exact hR1 _ _ ⟨by rw [eB, if_pos e], rfl⟩
    · rename_i e; exact hR1 _ _ ⟨by rw [eB, if_neg e], rfl⟩
  rintro _ _ ⟨rfl, rfl⟩
  refine yt (fun ρ' O' => ρ' = [some (.own x), some (.d (.int (eT S))), some (.d (.int (eB S))), some (.d (.int (eL S))), none] ∧ O = O') (fun R1 hR1 => ?_) ?_
  · walk_at "wd"
    simp [hx, and_assoc, zh, T.st.cl, T.st.n_picture, T.st.n_wide, T.st.n_high, T.st.n_row, T.st.n_column, T.st.n_late, T.st.n_ink, T.st.n_wrap, T.st.n_putting, T.st.n_home, T.st.n_top, T.st.n_bottom, T.st.n_left, T.st.n_right, T.st.n_stops, T.st.n_kept, T.st.n_last, zv, z7, z9, yu, zy, ya, yv, yb, zw, yc, yw, zz, yd, zG, zH, ye, yf, yx, zA, yg, yy, yh, zx, yi, yz, zB, yj, zI, yk]
    split
    · rename_i e; exact hR1 _ _ ⟨by rw [eL, if_pos e], rfl⟩
    · rename_i e; exact hR1 _ _ ⟨by rw [eL, if_neg e], rfl⟩
  rintro _ _ ⟨rfl, rfl⟩
  refine yt (fun ρ' O' => ρ' = [some (.own x), some (.d (.int (eT S))), some (.d (.int (eB S))), some (.d (.int (eL S))), some (.d (.int (eR S)))] ∧ O = O') (fun R1 hR1 => ?_) ?_
  · walk_at "wd"
    simp [hx, and_assoc, zh, T.st.cl, T.st.n_picture, T.st.n_wide, T.st.n_high, T.st.n_row, T.st.n_column, T.st.n_late, T.st.n_ink, T.st.n_wrap, T.st.n_putting, T.st.n_home, T.st.n_top, T.st.n_bottom, T.st.n_left, T.st.n_right, T.st.n_stops, T.st.n_kept, T.st.n_last, zv, z7, z9, yu, zy, ya, yv, yb, zw, yc, yw, zz, yd, zG, zH, ye, yf, yx, zA, yg, yy, yh, zx, yi, yz, zB, yj, zI, yk]
    split
    · rename_i e; exact hR1 _ _ ⟨by rw [eR, if_pos e], rfl⟩
    · rename_i e; exact hR1 _ _ ⟨by rw [eR, if_neg e], rfl⟩
  rintro _ _ ⟨rfl, rfl⟩
  walk_at "wd"
  exact .inl h
theorem VF (F : Fun K "blank_of" "blank_of" jg f fd) (T : Txt K mg C) : FnOk P w K mg base CX0 1 f fd ["state"] (zb K (uO C)) := by
  apply F.okV Vz (by rintro _ _ _ ⟨x, dx, p, st, kp, S, rfl, _⟩; rfl) (fun cdv A outer sh H E hr => (ze (zY (yD (qc zd (qc (zl (K := K) rfl (pv 0) rfl) qn))))))
  · walk_at "ref"
  rintro _ O R ⟨x, dx, p, st, kp, S, rfl, hs, h⟩
  have hx := hs.x
  walk_at "wd"
  simp [hx, yP, and_assoc, zh, T.st.cl, T.st.n_picture, T.st.n_wide, T.st.n_high, T.st.n_row, T.st.n_column, T.st.n_late, T.st.n_ink, T.st.n_wrap, T.st.n_putting, T.st.n_home, T.st.n_top, T.st.n_bottom, T.st.n_left, T.st.n_right, T.st.n_stops, T.st.n_kept, T.st.n_last, zv, z7, z9, yu, zy, ya, yv, yb, zw, yc, yw, zz, yd, zG, zH, ye, yf, yx, zA, yg, yy, yh, zx, yi, yz, zB, yj, zI, yk]
  exact .inl h
theorem VG (F : Fun K "to_place" "to_place" jh f fd) (T : Txt K mg C) (zga : Cal P w K mg base 2 "counted" [] (zb K ja)) : FnOk P w K mg base CX0 3 f fd ["state", "row", "column"] (zb K (Zz C)) := by
  apply F.okV VA (by rintro _ _ _ ⟨r, c, _, _, x, dx, p, st, kp, S, rfl, _⟩; rfl) (fun cdv A outer sh H E hr => (za (yA (xj (zl (K := K) rfl (pv 0) rfl)) (za (yB (K := K) rfl (pv 0) (zj zga (hr.mono (by decide)) rfl (QA.pa (qc (pv 1) (qc (zl (K := K) rfl (pv 0) rfl) (qc (zl (K := K) rfl (pv 0) rfl) qn))))) rfl)
      (ze (yB (K := K) rfl (pv 0) (zj zga (hr.mono (by decide)) rfl (QA.pa (qc (pv 2) (qc (zl (K := K) rfl (pv 0) rfl) (qc (zl (K := K) rfl (pv 0) rfl) qn))))) rfl))) (za (yB (K := K) rfl (pv 0) (zj zga (hr.mono (by decide)) rfl (QA.pa (qc (pv 1) (qc zc (qc (zg y6 (zl (K := K) rfl (pv 0) rfl) zc) qn))))) rfl)
      (ze (yB (K := K) rfl (pv 0) (zj zga (hr.mono (by decide)) rfl (QA.pa (qc (pv 2) (qc zc (qc (zg y6 (zl (K := K) rfl (pv 0) rfl) zc) qn))))) rfl))))
      (ze (yB (K := K) rfl (pv 0) yW rfl))))
  · walk_at "ref"
  rintro _ O R ⟨r, c, hr, hc, x, dx, p, st, kp, S, rfl, hs, _, h⟩
  have hx := hs.x
  simp only [plS] at h
  walk_at "wd"
  simp [hx, hr, hc, yL, and_assoc, zh, T.st.cl, T.st.n_picture, T.st.n_wide, T.st.n_high, T.st.n_row, T.st.n_column, T.st.n_late, T.st.n_ink, T.st.n_wrap, T.st.n_putting, T.st.n_home, T.st.n_top, T.st.n_bottom, T.st.n_left, T.st.n_right, T.st.n_stops, T.st.n_kept, T.st.n_last, zv, z7, z9, yu, zy, ya, yv, yb, zw, yc, yw, zz, yd, zG, zH, ye, yf, yx, zA, yg, yy, yh, zx, yi, yz, zB, yj, zI, yk]
  cases hh : S.home with
  | true =>
    simp [hh] at h ⊢
    exact .inl (h _ (hs.fld rfl rfl rfl) But.ux)
  | false =>
    simp [hh] at h ⊢
    exact .inl (h _ (hs.fld rfl rfl rfl) But.ux)
theorem Qv (F : Fun K "to_home" "to_home" jT f fd) (T : Txt K mg C) (zgB : Cal P w K mg base 3 "to_place" [] (zb K (Zz C))) : FnOk P w K mg base CX0 4 f fd ["state"] (zb K (ZA C)) := by
  apply F.okV Qn (by rintro _ _ _ ⟨x, dx, p, st, kp, S, rfl, _⟩; rfl) (fun cdv A outer sh H E hr => (ze (yr (zj zgB (hr.mono (by decide)) rfl (QA.pa (qc (pv 0) (qc yZ (qc yZ qn))))))))
  · walk_at "ref"
  rintro _ O R ⟨x, dx, p, st, kp, S, rfl, hs, _, h⟩
  walk_at "wd"
  exact ⟨.none, .none, trivial, trivial, x, dx, p, st, kp, S, rfl, hs, trivial, fun O' h1 h2 => .inl (h O' h1 h2)⟩
end
section
variable {P : Program} {w : World} {K : PySem.W.Frag} {mg : Str → Option Value} {base : Heap} {f C : Addr} {fd : FuncData}
theorem VH (F : Fun K "set_rows" "set_rows" jk f fd) (T : Txt K mg C) (zgy : Cal P w K mg base 2 "span" [] (zb K Zy)) (zgz : Cal P w K mg base 4 "to_home" [] (zb K (ZA C))) : FnOk P w K mg base CX0 5 f fd ["state", "first", "last"] (zb K (UU C)) := by
  have nd := kG.nd
  apply F.okV kG (by rintro _ _ _ ⟨r, c, _, _, x, dx, p, st, kp, S, rfl, _⟩; rfl) (fun cdv A outer sh H E hr => (za (zZ (i := 3) nd rfl (Or.inl rfl) (zj zgy (hr.mono (by decide)) rfl (QA.pa (qc (pv 1) (qc (pv 2) (qc (zl (K := K) rfl (pv 0) rfl) qn))))))
      (ze (yA (zW ka (pv 3) yZ (zJ _)) (za (yB (K := K) rfl (pv 0) (yM (x9 (K := K) rfl) (pv 3) zc (fun _ _ => rfl)) rfl)
      (za (yB (K := K) rfl (pv 0) (yM (x9 (K := K) rfl) (pv 3) zc (fun _ _ => rfl)) rfl)
      (ze (yr (zj zgz (hr.mono (by decide)) rfl (QA.pa (qc (pv 0) qn))))))) z0))))
  · walk_at "ref"
  rintro _ O R ⟨a, b, ha, hb, x, dx, p, st, kp, S, rfl, hs, _, h⟩
  have hx := hs.x
  simp only [YX] at h
  walk_at "wd"
  simp [hx, ha, hb, yL, YV, and_assoc, zh, T.st.cl, T.st.n_picture, T.st.n_wide, T.st.n_high, T.st.n_row, T.st.n_column, T.st.n_late, T.st.n_ink, T.st.n_wrap, T.st.n_putting, T.st.n_home, T.st.n_top, T.st.n_bottom, T.st.n_left, T.st.n_right, T.st.n_stops, T.st.n_kept, T.st.n_last, zv, z7, z9, yu, zy, ya, yv, yb, zw, yc, yw, zz, yd, zG, zH, ye, yf, yx, zA, yg, yy, yh, zx, yi, yz, zB, yj, zI, yk]
  by_cases e : va b S.h < yJ a
  · rw [if_pos e] at h
    simp [e, xS]
    exact .inl (h _ hs But.refl)
  · rw [if_neg e] at h
    simp [e, xS, atI, ixN, xz, hx, yL, and_assoc, zh, T.st.cl, T.st.n_picture, T.st.n_wide, T.st.n_high, T.st.n_row, T.st.n_column, T.st.n_late, T.st.n_ink, T.st.n_wrap, T.st.n_putting, T.st.n_home, T.st.n_top, T.st.n_bottom, T.st.n_left, T.st.n_right, T.st.n_stops, T.st.n_kept, T.st.n_last, zv, z7, z9, yu, zy, ya, yv, yb, zw, yc, yw, zz, yd, zG, zH, ye, yf, yx, zA, yg, yy, yh, zx, yi, yz, zB, yj, zI, yk]
    refine ⟨x, dx, p, st, kp, _, rfl, hs.fld (S' := { S with top := yJ a - 1, bottom := va b S.h - 1 }) rfl rfl rfl, trivial, fun O' h1 h2 => .inl (h O' h1 (But.ux.trans h2))⟩
theorem Yg (F : Fun K "set_columns" "set_columns" ui f fd) (T : Txt K mg C) (zgy : Cal P w K mg base 2 "span" [] (zb K Zy)) (zgz : Cal P w K mg base 4 "to_home" [] (zb K (ZA C))) : FnOk P w K mg base CX0 5 f fd ["state", "first", "last"] (zb K (UV C)) := by
  have nd := qN.nd
  apply F.okV qN (by rintro _ _ _ ⟨r, c, _, _, x, dx, p, st, kp, S, rfl, _⟩; rfl) (fun cdv A outer sh H E hr => (za (zZ (i := 3) nd rfl (Or.inl rfl) (zj zgy (hr.mono (by decide)) rfl (QA.pa (qc (pv 1) (qc (pv 2) (qc (zl (K := K) rfl (pv 0) rfl) qn))))))
      (ze (yA (zW ka (pv 3) yZ (zJ _)) (za (yB (K := K) rfl (pv 0) (yM (x9 (K := K) rfl) (pv 3) zc (fun _ _ => rfl)) rfl)
      (za (yB (K := K) rfl (pv 0) (yM (x9 (K := K) rfl) (pv 3) zc (fun _ _ => rfl)) rfl)
      (ze (yr (zj zgz (hr.mono (by decide)) rfl (QA.pa (qc (pv 0) qn))))))) z0))))
  · walk_at "ref"
  rintro _ O R ⟨a, b, ha, hb, x, dx, p, st, kp, S, rfl, hs, _, h⟩
  have hx := hs.x
  simp only [YY] at h
  walk_at "wd"
  simp [hx, ha, hb, yL, YV, and_assoc, zh, T.st.cl, T.st.n_picture, T.st.n_wide, T.st.n_high, T.st.n_row, T.st.n_column, T.st.n_late, T.st.n_ink, T.st.n_wrap, T.st.n_putting, T.st.n_home, T.st.n_top, T.st.n_bottom, T.st.n_left, T.st.n_right, T.st.n_stops, T.st.n_kept, T.st.n_last, zv, z7, z9, yu, zy, ya, yv, yb, zw, yc, yw, zz, yd, zG, zH, ye, yf, yx, zA, yg, yy, yh, zx, yi, yz, zB, yj, zI, yk]
  by_cases e : va b S.w < yJ a
  · rw [if_pos e] at h
    simp [e, xS]
    exact .inl (h _ hs But.refl)
  · rw [if_neg e] at h
    simp [e, xS, atI, ixN, xz, hx, yL, and_assoc, zh, T.st.cl, T.st.n_picture, T.st.n_wide, T.st.n_high, T.st.n_row, T.st.n_column, T.st.n_late, T.st.n_ink, T.st.n_wrap, T.st.n_putting, T.st.n_home, T.st.n_top, T.st.n_bottom, T.st.n_left, T.st.n_right, T.st.n_stops, T.st.n_kept, T.st.n_last, zv, z7, z9, yu, zy, ya, yv, yb, zw, yc, yw, zz, yd, zG, zH, ye, yf, yx, zA, yg, yy, yh, zx, yi, yz, zB, yj, zI, yk]
    refine ⟨x, dx, p, st, kp, _, rfl, hs.fld (S' := { S with left := yJ a - 1, right := va b S.w - 1 }) rfl rfl rfl, trivial, fun O' h1 h2 => .inl (h O' h1 (But.ux.trans h2))⟩
theorem ZU (F : Fun K "to_left_edge" "to_left_edge" vS f fd) (T : Txt K mg C) (zgf : Cal P w K mg base 1 "edges" [] (zb K (jJ C))) : FnOk P w K mg base CX0 2 f fd ["state"] (zb K (U0 C)) := by
  apply F.okV ZO (by rintro _ _ _ ⟨x, dx, p, st, kp, S, rfl, _⟩; rfl) (fun cdv A outer sh H E hr => (za (yB (K := K) rfl (pv 0) (yM (x9 (K := K) rfl) (zj zgf (hr.mono (by decide)) rfl (QA.pa (qc (pv 0) qn))) zc (fun _ _ => rfl)) rfl)
      (ze (yB (K := K) rfl (pv 0) yW rfl))))
  · walk_at "ref"
  rintro _ O R ⟨x, dx, p, st, kp, S, rfl, hs, _, h⟩
  have hx := hs.x
  walk_at "wd"
  refine ⟨x, dx, p, st, kp, S, rfl, hs, ?_⟩
  simp [hx, yL, atI, ixN, and_assoc, zh, T.st.cl, T.st.n_picture, T.st.n_wide, T.st.n_high, T.st.n_row, T.st.n_column, T.st.n_late, T.st.n_ink, T.st.n_wrap, T.st.n_putting, T.st.n_home, T.st.n_top, T.st.n_bottom, T.st.n_left, T.st.n_right, T.st.n_stops, T.st.n_kept, T.st.n_last, zv, z7, z9, yu, zy, ya, yv, yb, zw, yc, yw, zz, yd, zG, zH, ye, yf, yx, zA, yg, yy, yh, zx, yi, yz, zB, yj, zI, yk]
  exact .inl (h _ (hs.fld rfl rfl rfl) But.ux)
theorem zdo (F : Fun K "dye" "dye" Qp f fd) (T : Txt K mg C) (zge : Cal P w K mg base 3 "dyed" [] (zb K YW)) : FnOk P w K mg base CX0 4 f fd ["state", "numbers"] (zb K (UW C)) := by
  have nd := Ju.nd
  apply F.okV Ju (by rintro _ _ _ ⟨ns, _, x, dx, p, st, kp, S, rfl, _⟩; rfl) (fun cdv A outer sh H E hr => (ze (xK PassesOwn.never rfl (Z7 (K := K) rfl (pv 1)) (yO (i := 2) nd rfl (Or.inl rfl))
      (ze (yB (K := K) rfl (pv 0) (zj zge (hr.mono (by decide)) rfl (QA.pa (qc (zl (K := K) rfl (pv 0) rfl) (qc (pv 2) qn)))) rfl)))))
  · walk_at "ref"
  rintro _ O R ⟨ns, hns, x, dx, p, st, kp, S, rfl, hs, hi, h⟩
  walk_at "wd"
  refine xA.by (fun i ρ O' => ∃ v, ρ = [some (.own x), some (.d (.tuple ns)), v] ∧ StAt O' C x dx p st kp (jb (ns.take i) S) ∧ Ink (jb (ns.take i) S).ink ∧ But O O' x p) ⟨_, rfl, hs, hi, But.refl⟩ (fun _ _ _ _ => trivial) ?_ ?_
  · rintro i wv _ O1 hw ⟨v, rfl, hs1, hi1, hb1⟩ R1 hR1
    rw [List.getElem?_map] at hw
    cases hni : ns[i]? with
    | none => rw [hni] at hw; cases hw
    | some n =>
      rw [hni] at hw
      cases hw
      have hx1 := hs1.x
      have hn := hns n (List.mem_of_getElem? hni)
      walk_at "wd"
      simp [hx1, hi1, hn, yL, and_assoc, zh, T.st.cl, T.st.n_picture, T.st.n_wide, T.st.n_high, T.st.n_row, T.st.n_column, T.st.n_late, T.st.n_ink, T.st.n_wrap, T.st.n_putting, T.st.n_home, T.st.n_top, T.st.n_bottom, T.st.n_left, T.st.n_right, T.st.n_stops, T.st.n_kept, T.st.n_last, zv, z7, z9, yu, zy, ya, yv, yb, zw, yc, yw, zz, yd, zG, zH, ye, yf, yx, zA, yg, yy, yh, zx, yi, yz, zB, yj, zI, yk]
      have et : ns.take (i + 1) = ns.take i ++ [n] := by
        rw [List.take_add_one, hni]; rfl
      refine hR1 _ _ ⟨_, rfl, ?_, ?_, hb1.trans But.ux⟩
      · have := hs1.fld (S' := { jb (ns.take i) S with ink := vM (jb (ns.take i) S).ink n }) rfl rfl rfl
        rw [et]
        simpa [jb, List.foldl_append] using this
      · rw [et]
        simp only [jb, List.foldl_append, List.foldl_cons, List.foldl_nil]
        exact KB hi1
  · rintro ρ O1 ⟨v, rfl, hs1, _, hb1⟩
    simp at hs1
    exact .inl (h _ hs1 hb1)
end
section
variable {P : Program} {w : World} {K : PySem.W.Frag} {mg : Str → Option Value} {base : Heap} {f C : Addr} {fd : FuncData}
theorem YH (F : Fun K "turn_modes" "turn_modes" uT f fd) (T : Txt K mg C) (zgz : Cal P w K mg base 4 "to_home" [] (zb K (ZA C))) : FnOk P w K mg base CX0 5 f fd ["state", "numbers", "on"] (zb K (ZB C)) := by
  have nd := jo.nd
  apply F.okV jo (by rintro _ _ _ ⟨k, on, x, dx, p, st, kp, S, rfl, _⟩; rfl) (fun cdv A outer sh H E hr => (za (zZ (i := 3) nd rfl (Or.inl rfl) (xi zck (pv 2) yW (zJ _)))
      (za (xK PassesOwn.never rfl (Z7 (K := K) rfl (pv 1)) (yO (i := 4) nd rfl (Or.inl rfl))
      (ze (yA (zW yX (pv 4) zc (zJ _)) (ze (yB (K := K) rfl (pv 0) (pv 3) rfl)) (ze (yA (zW yX (pv 4) zc (zJ _)) (ze (yB (K := K) rfl (pv 0) (pv 3) rfl)) (ze (yA (zW yX (pv 4) zc (zJ _)) (ze (yB (K := K) rfl (pv 0) (pv 3) rfl)) z0)))))))
      (ze (yA (zW (zdL (K := K) rfl) zc (pv 1) (by with_unfolding_all rfl)) (ze (yr (zj zgz (hr.mono (by decide)) rfl (QA.pa (qc (pv 0) qn))))) z0)))))
  · walk_at "ref"
  rintro _ O R ⟨k, on, x, dx, p, st, kp, S, rfl, hs, _, h⟩
  refine yt (fun ρ' O' => ρ' = [some (.own x), some (.d (.tuple [.int k])), some (.d (.bool on)), some (.d (.bool on)), none] ∧ O = O') (fun R1 hR1 => ?_) ?_
  · walk_at "wd"
    exact hR1 _ _ ⟨rfl, rfl⟩
  rintro _ _ ⟨rfl, rfl⟩
  refine yt (fun ρ' O' => ∃ v, ρ' = [some (.own x), some (.d (.tuple [.int k])), some (.d (.bool on)), some (.d (.bool on)), v] ∧ But O O' x p ∧ StAt O' C x dx p st kp (if k = 1 then { S with wrap := on } else if k = 2 then { S with putting := on } else if k = 3 then { S with home := on } else S)) (fun R1 hR1 => ?_) ?_
  · walk_at "wd"
    refine xA.by (fun i ρ O' => ∃ v, ρ = [some (.own x), some (.d (.tuple [.int k])), some (.d (.bool on)), some (.d (.bool on)), v] ∧ But O O' x p ∧ StAt O' C x dx p st kp (if i = 0 then S else if k = 1 then { S with wrap := on } else if k = 2 then { S with putting := on } else if k = 3 then { S with home := on } else S)) ⟨_, rfl, But.refl, hs⟩ (fun _ _ _ _ => trivial) ?_ ?_
    · rintro i wv _ O1 hw ⟨v, rfl, hb1, hs1⟩ R2 hR2
      cases i with
      | succ i => simp at hw
      | zero =>
        cases hw
        rw [if_pos rfl] at hs1
        have hx1 := hs1.x
        walk_at "wd"
        simp [hx1, yL, and_assoc, zh, T.st.cl, T.st.n_picture, T.st.n_wide, T.st.n_high, T.st.n_row, T.st.n_column, T.st.n_late, T.st.n_ink, T.st.n_wrap, T.st.n_putting, T.st.n_home, T.st.n_top, T.st.n_bottom, T.st.n_left, T.st.n_right, T.st.n_stops, T.st.n_kept, T.st.n_last, zv, z7, z9, yu, zy, ya, yv, yb, zw, yc, yw, zz, yd, zG, zH, ye, yf, yx, zA, yg, yy, yh, zx, yi, yz, zB, yj, zI, yk]
        split
        · rename_i e; subst e; exact hR2 _ _ ⟨_, rfl, hb1.trans But.ux, by simpa using hs1.fld (S' := { S with wrap := on }) rfl rfl rfl⟩
        · split
          · rename_i e; subst e; exact hR2 _ _ ⟨_, rfl, hb1.trans But.ux, by simpa using hs1.fld (S' := { S with putting := on }) rfl rfl rfl⟩
          · split
            · rename_i e; subst e; exact hR2 _ _ ⟨_, rfl, hb1.trans But.ux, by simpa using hs1.fld (S' := { S with home := on }) rfl rfl rfl⟩
            · rename_i e1 e2 e3; exact hR2 _ _ ⟨_, rfl, hb1, by simpa [e1, e2, e3] using hs1⟩
    · rintro ρ O1 ⟨v, rfl, hb1, hs1⟩
      exact hR1 _ _ ⟨v, rfl, hb1, by simpa using hs1⟩
  rintro _ O1 ⟨v, rfl, hb1, hs1⟩
  walk_at "wd"
  simp [qi, xz, inV, eqV, scD, vOf]
  simp only [YZ] at h
  by_cases e : k = 3
  · subst e
    simp at hs1 h ⊢
    exact ⟨x, dx, p, st, kp, _, rfl, hs1, trivial, fun O' h1 h2 => .inl (h O' h1 (hb1.trans h2))⟩
  · simp [e] at hs1 h ⊢
    exact .inl (h _ hs1 hb1)
theorem Jw (F : Fun K "copied" "copied" kX f fd) (T : Txt K mg C) : FnOk P w K mg base CX0 1 f fd ["picture"] (zb K Z8) := by
  apply F.okV Jt (by rintro _ _ _ ⟨p, h, w, f, rfl, _⟩; rfl) (fun cdv A outer sh H E hr => (ze (zY (u6 (qV (N := ["row"]) (n := 1) (js := [])) rfl (uK (K := K) rfl (pv 0)) (fun _ _ _ _ => (yO (i := 0) (show List.Nodup (["row"] : List Str) by decide +kernel) rfl (Or.inl rfl))) (fun _ _ _ _ => uu) (fun _ _ _ _ => (vy (K6 (K := K) rfl) (by rfl) T.n_list rfl (QA.pa (qc (pv 0) qn))))))))
  · walk_at "ref"
  rintro _ O R ⟨p, h, w, g, rfl, hp, hh, q⟩
  walk_at "wd"
  have e1 := y9 hp
  rw [xl] at e1
  refine ⟨_, e1, by simp; omega, fun v => match v with | .row _ i => some (PyData.list ((List.range w).map fun j => yE (g i j))) | _ => none, ?_, .inl ?_⟩
  · intro a ha us hus
    obtain ⟨i, hi, rfl⟩ := List.mem_map.mp ha
    have hi : i < h := by simpa using hi
    match us, hus with
    | [u], _ =>
      have e2 := qZ hp hi
      have e3 : yP ((List.range w).map fun j => W.d (yE (g i j))) = some ((List.range w).map fun j => yE (g i j)) := by
        have := vJ ((List.range w).map fun j => yE (g i j))
        rw [List.map_map] at this
        exact this
      simp [qi, xz, e2, e3]
  · have e4 : List.filterMap (fun v => match v with | W.row _ i => some (PyData.list ((List.range w).map fun j => yE (g i j))) | _ => none) ((List.range h).map (W.row p)) = (genG h w g).map .list := by
      unfold genG
      rw [List.filterMap_map, List.map_map]
      exact congrFun (List.filterMap_eq_map (f := fun i => PyData.list ((List.range w).map fun j => yE (g i j)))) (List.range h)
    rw [e4]
    exact q
theorem Ve (F : Fun K "roll_rows" "roll_rows" qr f fd) (T : Txt K mg C) (zf9 : Cal P w K mg base 1 "copied" [] (zb K Z8)) (zf4 : Cal P w K mg base 1 "blank_of" [] (zb K (uO C))) : FnOk P w K mg base CX0 2 f fd ["state", "first", "step"] (zb K (uq C)) := by
  have nd := jU.nd
  apply F.okV jU (by rintro _ _ _ ⟨a, s, _, _, x, dx, p, st, kp, S, rfl, _⟩; rfl) (fun cdv A outer sh H E hr => (za (zZ (i := 3) nd rfl (Or.inl rfl) (zj zf9 (hr.mono (by decide)) rfl (QA.pa (qc (zl (K := K) rfl (pv 0) rfl) qn))))
      (ze (xK PassesOwn.never rfl (vY rfl T.n_range (QA.pa (qc (pv 1) (qc (zg yC (zl (K := K) rfl (pv 0) rfl) zc) qn)))) (yO (i := 4) nd rfl (Or.inl rfl))
      (za (zZ (i := 5) nd rfl (Or.inl rfl) (zg yC (pv 4) (pv 2)))
      (za (zZ (i := 6) nd rfl (Or.inl rfl) (uC yN yN (pv 1) (pv 5) (zl (K := K) rfl (pv 0) rfl)))
      (ze (xK PassesOwn.never rfl (vY rfl T.n_range (QA.pa (qc (zl (K := K) rfl (pv 0) rfl) (qc (zg yC (zl (K := K) rfl (pv 0) rfl) zc) qn)))) (yO (i := 7) nd rfl (Or.inl rfl))
      (ze (x3 (xg (xj (pv 6)) (yM (yY (K := K) rfl) (yM (yY (K := K) rfl) (pv 3) (pv 5) (fun _ _ => rfl)) (pv 7) (fun _ _ => rfl)) (zj zf4 (hr.mono (by decide)) rfl (QA.pa (qc (pv 0) qn)))) (vm (yM (yY (K := K) rfl) (zl (K := K) rfl (pv 0) rfl) (pv 4) (fun _ _ => rfl)) (pv 7) xF)))))))))))
  · walk_at "ref"
  rintro _ O R ⟨a, s, s1, s2, x, dx, p, st, kp, S, rfl, hs, ⟨hB, a0, a1⟩, h⟩
  have hx := hs.x
  have := hB.h2
  have := hB.w2
  refine yt (fun ρ' O' => ρ' = [some (.own x), some (.d (.int a)), some (.d (.int s)), some (.d (.list ((genG S.h S.w S.pic).map .list))), none, none, none, none] ∧ O = O') (fun R1 hR1 => ?_) ?_
  · walk_at "wd"
    simp [hx, and_assoc, zh, T.st.cl, T.st.n_picture, T.st.n_wide, T.st.n_high, T.st.n_row, T.st.n_column, T.st.n_late, T.st.n_ink, T.st.n_wrap, T.st.n_putting, T.st.n_home, T.st.n_top, T.st.n_bottom, T.st.n_left, T.st.n_right, T.st.n_stops, T.st.n_kept, T.st.n_last, zv, z7, z9, yu, zy, ya, yv, yb, zw, yc, yw, zz, yd, zG, zH, ye, yf, yx, zA, yg, yy, yh, zx, yi, yz, zB, yj, zI, yk]
    exact ⟨p, S.h, S.w, S.pic, rfl, hs.p, hB.h2, hR1 _ _ ⟨rfl, rfl⟩⟩
  rintro _ _ ⟨rfl, rfl⟩
  have := hB.b1
  have := hB.l0
  have := hB.lr
  have := hB.rr
  walk_at "wd"
  simp [hx, and_assoc, zh, T.st.cl, T.st.n_picture, T.st.n_wide, T.st.n_high, T.st.n_row, T.st.n_column, T.st.n_late, T.st.n_ink, T.st.n_wrap, T.st.n_putting, T.st.n_home, T.st.n_top, T.st.n_bottom, T.st.n_left, T.st.n_right, T.st.n_stops, T.st.n_kept, T.st.n_last, zv, z7, z9, yu, zy, ya, yv, yb, zw, yc, yw, zz, yd, zG, zH, ye, yf, yx, zA, yg, yy, yh, zx, yi, yz, zB, yj, zI, yk]
  refine ⟨by omega, by omega, by omega, by omega, ?_⟩
  generalize hN : mvP S.pic S.ink a S.bottom S.left S.right s 0 = N
  refine xA.rng (fun i ρ O' => ∃ v4 v5 v6 v7, ρ = [some (.own x), some (.d (.int a)), some (.d (.int s)), some (.d (.list ((genG S.h S.w S.pic).map .list))), v4, v5, v6, v7] ∧ But O O' x p ∧ StAt O' C x dx p st kp { S with pic := goP N S.pic a S.left i 0 }) ⟨_, _, _, _, rfl, But.refl, ?_⟩ ?_ ?_
  · rw [kR (fun a' b' hab => by rw [← hN]; exact xO (by omega))]
    exact hs
  · rintro i _ O1 hi ⟨v4, v5, v6, v7, rfl, hb1, hs1⟩ R1 hR1
    have hx1 := hs1.x
    refine yt (fun ρ' O' => ρ' = [some (.own x), some (.d (.int a)), some (.d (.int s)), some (.d (.list ((genG S.h S.w S.pic).map .list))), some (.d (.int (a + i))), some (.d (.int (a + i + s))), v6, v7] ∧ O1 = O') (fun R2 hR2 => ?_) ?_
    · walk_at "wd"
      exact hR2 _ _ ⟨rfl, rfl⟩
    rintro _ _ ⟨rfl, rfl⟩
    refine yt (fun ρ' O' => ρ' = [some (.own x), some (.d (.int a)), some (.d (.int s)), some (.d (.list ((genG S.h S.w S.pic).map .list))), some (.d (.int (a + i))), some (.d (.int (a + i + s))), some (.d (.bool (decide (a ≤ a + i + s ∧ a + i + s ≤ S.bottom)))), v7] ∧ O1 = O') (fun R2 hR2 => ?_) ?_
    · walk_at "wd"
      simp [hx1, and_assoc, zh, T.st.cl, T.st.n_picture, T.st.n_wide, T.st.n_high, T.st.n_row, T.st.n_column, T.st.n_late, T.st.n_ink, T.st.n_wrap, T.st.n_putting, T.st.n_home, T.st.n_top, T.st.n_bottom, T.st.n_left, T.st.n_right, T.st.n_stops, T.st.n_kept, T.st.n_last, zv, z7, z9, yu, zy, ya, yv, yb, zw, yc, yw, zz, yd, zG, zH, ye, yf, yx, zA, yg, yy, yh, zx, yi, yz, zB, yj, zI, yk]
      split
      · rename_i e; exact hR2 _ _ ⟨by simp [e], rfl⟩
      · rename_i e; exact hR2 _ _ ⟨by simp [e], rfl⟩
    rintro _ _ ⟨rfl, rfl⟩
    generalize hin : decide (a ≤ a + i + s ∧ a + i + s ≤ S.bottom) = ins
    walk_at "wd"
    simp [hx1, and_assoc, zh, T.st.cl, T.st.n_picture, T.st.n_wide, T.st.n_high, T.st.n_row, T.st.n_column, T.st.n_late, T.st.n_ink, T.st.n_wrap, T.st.n_putting, T.st.n_home, T.st.n_top, T.st.n_bottom, T.st.n_left, T.st.n_right, T.st.n_stops, T.st.n_kept, T.st.n_last, zv, z7, z9, yu, zy, ya, yv, yb, zw, yc, yw, zz, yd, zG, zH, ye, yf, yx, zA, yg, yy, yh, zx, yi, yz, zB, yj, zI, yk]
    refine ⟨by omega, by omega, by omega, by omega, ?_⟩
    refine xA.rng (fun j ρ O' => ∃ v7, ρ = [some (.own x), some (.d (.int a)), some (.d (.int s)), some (.d (.list ((genG S.h S.w S.pic).map .list))), some (.d (.int (a + i))), some (.d (.int (a + i + s))), some (.d (.bool ins)), v7] ∧ But O O' x p ∧ StAt O' C x dx p st kp { S with pic := goP N S.pic a S.left i j }) ⟨_, rfl, hb1, hs1⟩ ?_ ?_
    · rintro j _ O2 hj ⟨v7, rfl, hb2, hs2⟩ R2 hR2
      have hx2 := hs2.x
      have e1 := y9 hs2.p
      rw [xl] at e1
      have e2 : atI ((List.range S.h).map (W.row p)) (a + (i : Int)) = some (W.row p (a + (i : Int)).toNat) := xa (by omega) (by omega)
      have e3 : ∀ c, N (a + (i : Int)).toNat (S.left + (j : Int)).toNat = c → uI O2 (.row p (a + (i : Int)).toNat) (S.left + j) (.d (yE c)) = some (updO O2 p (.grid (genG S.h S.w (goP N S.pic a S.left i (j + 1))))) := by
        rintro _ rfl
        rw [xI hs2.p (by simp only; omega) (by omega) (by simp only; omega), kS (by omega) (by omega)]
      have nx : ∀ v, R2 [some (.own x), some (.d (.int a)), some (.d (.int s)), some (.d (.list ((genG S.h S.w S.pic).map .list))), some (.d (.int (a + i))), some (.d (.int (a + i + s))), some (.d (.bool ins)), v] (updO O2 p (.grid (genG S.h S.w (goP N S.pic a S.left i (j + 1))))) := fun v =>
        hR2 _ _ ⟨v, rfl, hb2.trans But.up, hs2.pic (f := goP N S.pic a S.left i (j + 1))⟩
      cases ins with
      | true =>
        have hin := of_decide_eq_true hin
        have eN : N (a + (i : Int)).toNat (S.left + (j : Int)).toNat = S.pic (a + i + s).toNat (S.left + (j : Int)).toNat := by
          rw [← hN]
          unfold mvP
          rw [if_pos (by omega), if_pos (by omega)]
          unfold atF
          congr 1 <;> first | omega | (congr 1; omega)
        walk_at "wd"
        simp [hx2, e1, e2, e3 _ eN, Jh, KC (show 0 ≤ a + i + s by omega) (show a + i + s < S.h by omega), XB (show 0 ≤ S.left + j by omega) (show S.left + j < S.w by omega), -List.map_map, and_assoc, zh, T.st.cl, T.st.n_picture, T.st.n_wide, T.st.n_high, T.st.n_row, T.st.n_column, T.st.n_late, T.st.n_ink, T.st.n_wrap, T.st.n_putting, T.st.n_home, T.st.n_top, T.st.n_bottom, T.st.n_left, T.st.n_right, T.st.n_stops, T.st.n_kept, T.st.n_last, zv, z7, z9, yu, zy, ya, yv, yb, zw, yc, yw, zz, yd, zG, zH, ye, yf, yx, zA, yg, yy, yh, zx, yi, yz, zB, yj, zI, yk]
        exact nx _
      | false =>
        have hin := of_decide_eq_false hin
        have eN : N (a + (i : Int)).toNat (S.left + (j : Int)).toNat = xx S.ink := by
          rw [← hN]
          unfold mvP
          rw [if_pos (by omega), if_neg (by omega)]
        walk_at "wd"
        refine ⟨x, dx, p, st, kp, _, rfl, hs2, ?_⟩
        simp [hx2, e1, e2, e3 _ eN, and_assoc, zh, T.st.cl, T.st.n_picture, T.st.n_wide, T.st.n_high, T.st.n_row, T.st.n_column, T.st.n_late, T.st.n_ink, T.st.n_wrap, T.st.n_putting, T.st.n_home, T.st.n_top, T.st.n_bottom, T.st.n_left, T.st.n_right, T.st.n_stops, T.st.n_kept, T.st.n_last, zv, z7, z9, yu, zy, ya, yv, yb, zw, yc, yw, zz, yd, zG, zH, ye, yf, yx, zA, yg, yy, yh, zx, yi, yz, zB, yj, zI, yk]
        exact nx _
    · rintro ρ O2 ⟨v7, rfl, hb2, hs2⟩
      refine hR1 _ _ ⟨_, _, _, _, rfl, hb2, ?_⟩
      rw [Z9 (fun a' b' h1 h2 => by rw [← hN]; exact xO (by omega)) (fun a' b' h1 h2 => by rw [← hN]; exact xO (by omega))] at hs2
      exact hs2
  · rintro ρ O1 ⟨v4, v5, v6, v7, rfl, hb1, hs1⟩
    rw [Ya (fun a' b' h1 => by rw [← hN]; exact xO (by omega)), ← hN] at hs1
    exact .inl (h _ hs1 hb1)
end
section
variable {P : Program} {w : World} {K : PySem.W.Frag} {mg : Str → Option Value} {base : Heap} {f C : Addr} {fd : FuncData}
theorem Qw (F : Fun K "roll_up" "roll_up" jV f fd) (T : Txt K mg C) (zgu : Cal P w K mg base 2 "roll_rows" [] (zb K (uq C))) : FnOk P w K mg base CX0 3 f fd ["state", "first", "times"] (zb K (uq C)) := by
  apply F.okV Qo (by rintro _ _ _ ⟨a, s, _, _, x, dx, p, st, kp, S, rfl, _⟩; rfl) (fun cdv A outer sh H E hr => (ze (yr (zj zgu (hr.mono (by decide)) rfl (QA.pa (qc (pv 0) (qc (pv 1) (qc (pv 2) qn))))))))
  · walk_at "ref"
  rintro _ O R ⟨a, s, s1, s2, x, dx, p, st, kp, S, rfl, hs, hp, h⟩
  walk_at "wd"
  exact ⟨a, s, s1, s2, x, dx, p, st, kp, S, rfl, hs, hp, fun O' h1 h2 => .inl (h O' h1 h2)⟩
theorem YI (F : Fun K "move_cells" "move_cells" uR f fd) (T : Txt K mg C) (zgf : Cal P w K mg base 1 "edges" [] (zb K (jJ C))) (zf4 : Cal P w K mg base 1 "blank_of" [] (zb K (uO C))) : FnOk P w K mg base CX0 2 f fd ["state", "step"] (zb K (UZ C)) := by
  have nd := jm.nd
  apply F.okV jm (by rintro _ _ _ ⟨s, _, _, x, dx, p, st, kp, S, rfl, _⟩; rfl) (fun cdv A outer sh H E hr => (za (zZ (i := 2) nd rfl (Or.inl rfl) (yM (x9 (K := K) rfl) (zj zgf (hr.mono (by decide)) rfl (QA.pa (qc (pv 0) qn))) zc (fun _ _ => rfl)))
      (za (zZ (i := 3) nd rfl (Or.inl rfl) (yM (yY (K := K) rfl) (zl (K := K) rfl (pv 0) rfl) (zl (K := K) rfl (pv 0) rfl) (fun _ _ => rfl)))
      (za (zZ (i := 4) nd rfl (Or.inl rfl) (vy (K6 (K := K) rfl) (by rfl) T.n_list rfl (QA.pa (qc (pv 3) qn))))
      (za (xK PassesOwn.never rfl (vY rfl T.n_range (QA.pa (qc (zl (K := K) rfl (pv 0) rfl) (qc (zg yC (pv 2) zc) qn)))) (yO (i := 5) nd rfl (Or.inl rfl))
      (za (zZ (i := 6) nd rfl (Or.inl rfl) (zg yC (pv 5) (pv 1)))
      (za (zZ (i := 7) nd rfl (Or.inl rfl) (uC yN yN (zl (K := K) rfl (pv 0) rfl) (pv 6) (pv 2)))
      (ze (x3 (xg (xj (pv 7)) (yM (yY (K := K) rfl) (pv 4) (pv 6) (fun _ _ => rfl)) (zj zf4 (hr.mono (by decide)) rfl (QA.pa (qc (pv 0) qn)))) (vm (pv 3) (pv 5) xF))))))
      (ze (yB (K := K) rfl (pv 0) yW rfl)))))))
  · walk_at "ref"
  rintro _ O R ⟨s, s1, s2, x, dx, p, st, kp, S, rfl, hs, hB, h⟩
  have hx := hs.x
  have := hB.h2
  have := hB.w2
  have := hB.r0
  have := hB.r1
  have := hB.c0
  have eR1 := qe hB
  have e0 := y9 hs.p
  rw [xl] at e0
  have e0b : atI ((List.range S.h).map (W.row p)) S.row = some (W.row p S.row.toNat) := xa hB.r0 hB.r1
  have e0c := qZ hs.p (i := S.row.toNat) (by omega)
  have e0d : yP ((List.range S.w).map fun j => W.d (yE (S.pic S.row.toNat j))) = some ((List.range S.w).map fun j => yE (S.pic S.row.toNat j)) := by
    have := vJ ((List.range S.w).map fun j => yE (S.pic S.row.toNat j))
    rw [List.map_map] at this
    exact this
  refine ZE (fun ρ' O' => ρ' = [some (.own x), some (.d (.int s)), some (.d (.int (eR S))), some (.row p S.row.toNat), some (.d (.list ((List.range S.w).map fun j => yE (S.pic S.row.toNat j)))), none, none, none] ∧ O = O') (fun R1 hR1 => ?_) ?_
  · walk_at "wd"
    refine ⟨x, dx, p, st, kp, S, rfl, hs, ?_⟩
    simp [hx, e0, e0b, e0c, e0d, qi, xz, zdf, and_assoc, zh, T.st.cl, T.st.n_picture, T.st.n_wide, T.st.n_high, T.st.n_row, T.st.n_column, T.st.n_late, T.st.n_ink, T.st.n_wrap, T.st.n_putting, T.st.n_home, T.st.n_top, T.st.n_bottom, T.st.n_left, T.st.n_right, T.st.n_stops, T.st.n_kept, T.st.n_last, zv, z7, z9, yu, zy, ya, yv, yb, zw, yc, yw, zz, yd, zG, zH, ye, yf, yx, zA, yg, yy, yh, zx, yi, yz, zB, yj, zI, yk]
    exact hR1 _ _ ⟨rfl, rfl⟩
  rintro _ _ ⟨rfl, rfl⟩
  generalize hN : mvP S.pic S.ink S.row S.row S.col (eR S) 0 s = N
  refine yt (fun ρ' O' => ∃ v5 v6 v7, ρ' = [some (.own x), some (.d (.int s)), some (.d (.int (eR S))), some (.row p S.row.toNat), some (.d (.list ((List.range S.w).map fun j => yE (S.pic S.row.toNat j)))), v5, v6, v7] ∧ But O O' x p ∧ StAt O' C x dx p st kp { S with pic := N }) (fun R1 hR1 => ?_) ?_
  · walk_at "wd"
    simp [hx, and_assoc, zh, T.st.cl, T.st.n_picture, T.st.n_wide, T.st.n_high, T.st.n_row, T.st.n_column, T.st.n_late, T.st.n_ink, T.st.n_wrap, T.st.n_putting, T.st.n_home, T.st.n_top, T.st.n_bottom, T.st.n_left, T.st.n_right, T.st.n_stops, T.st.n_kept, T.st.n_last, zv, z7, z9, yu, zy, ya, yv, yb, zw, yc, yw, zz, yd, zG, zH, ye, yf, yx, zA, yg, yy, yh, zx, yi, yz, zB, yj, zI, yk]
    refine ⟨by omega, by omega, by omega, by omega, ?_⟩
    refine xA.rng (fun j ρ O' => ∃ v5 v6 v7, ρ = [some (.own x), some (.d (.int s)), some (.d (.int (eR S))), some (.row p S.row.toNat), some (.d (.list ((List.range S.w).map fun j => yE (S.pic S.row.toNat j)))), v5, v6, v7] ∧ But O O' x p ∧ StAt O' C x dx p st kp { S with pic := goP N S.pic S.row S.col 0 j }) ⟨_, _, _, rfl, But.refl, ?_⟩ ?_ ?_
    · rw [kR (fun a' b' hab => by rw [← hN]; exact xO (by omega))]
      exact hs
    · rintro j _ O1 hj ⟨v5, v6, v7, rfl, hb1, hs1⟩ R2 hR2
      have hx1 := hs1.x
      refine yt (fun ρ' O' => ρ' = [some (.own x), some (.d (.int s)), some (.d (.int (eR S))), some (.row p S.row.toNat), some (.d (.list ((List.range S.w).map fun j => yE (S.pic S.row.toNat j)))), some (.d (.int (S.col + j))), some (.d (.int (S.col + j + s))), v7] ∧ O1 = O') (fun R3 hR3 => ?_) ?_
      · walk_at "wd"
        exact hR3 _ _ ⟨rfl, rfl⟩
      rintro _ _ ⟨rfl, rfl⟩
      refine yt (fun ρ' O' => ρ' = [some (.own x), some (.d (.int s)), some (.d (.int (eR S))), some (.row p S.row.toNat), some (.d (.list ((List.range S.w).map fun j => yE (S.pic S.row.toNat j)))), some (.d (.int (S.col + j))), some (.d (.int (S.col + j + s))), some (.d (.bool (decide (S.col ≤ S.col + j + s ∧ S.col + j + s ≤ eR S))))] ∧ O1 = O') (fun R3 hR3 => ?_) ?_
      · walk_at "wd"
        simp [hx1, and_assoc, zh, T.st.cl, T.st.n_picture, T.st.n_wide, T.st.n_high, T.st.n_row, T.st.n_column, T.st.n_late, T.st.n_ink, T.st.n_wrap, T.st.n_putting, T.st.n_home, T.st.n_top, T.st.n_bottom, T.st.n_left, T.st.n_right, T.st.n_stops, T.st.n_kept, T.st.n_last, zv, z7, z9, yu, zy, ya, yv, yb, zw, yc, yw, zz, yd, zG, zH, ye, yf, yx, zA, yg, yy, yh, zx, yi, yz, zB, yj, zI, yk]
        split
        · rename_i e; exact hR3 _ _ ⟨by simp [e], rfl⟩
        · rename_i e; exact hR3 _ _ ⟨by simp [e], rfl⟩
      rintro _ _ ⟨rfl, rfl⟩
      generalize hin : decide (S.col ≤ S.col + j + s ∧ S.col + j + s ≤ eR S) = ins
      have e3 : ∀ c, N S.row.toNat (S.col + (j : Int)).toNat = c → uI O1 (.row p S.row.toNat) (S.col + j) (.d (yE c)) = some (updO O1 p (.grid (genG S.h S.w (goP N S.pic S.row S.col 0 (j + 1))))) := by
        rintro _ rfl
        rw [xI hs1.p (by simp only; omega) (by omega) (by simp only; omega), kS (by omega) (by omega)]
      have nx : ∀ v5 v6 v7, R2 [some (.own x), some (.d (.int s)), some (.d (.int (eR S))), some (.row p S.row.toNat), some (.d (.list ((List.range S.w).map fun j => yE (S.pic S.row.toNat j)))), v5, v6, v7] (updO O1 p (.grid (genG S.h S.w (goP N S.pic S.row S.col 0 (j + 1))))) := fun v5 v6 v7 =>
        hR2 _ _ ⟨v5, v6, v7, rfl, hb1.trans But.up, hs1.pic (f := goP N S.pic S.row S.col 0 (j + 1))⟩
      cases ins with
      | true =>
        have hin := of_decide_eq_true hin
        have eN : N S.row.toNat (S.col + (j : Int)).toNat = S.pic S.row.toNat (S.col + j + s).toNat := by
          rw [← hN]
          unfold mvP
          rw [if_pos (by omega), if_pos (by omega)]
          unfold atF
          congr 1 <;> first | omega | (congr 1; omega)
        walk_at "wd"
        simp [hx1, e3 _ eN, Jh, XB (show 0 ≤ S.col + j + s by omega) (show S.col + j + s < S.w by omega), -List.map_map, and_assoc, zh, T.st.cl, T.st.n_picture, T.st.n_wide, T.st.n_high, T.st.n_row, T.st.n_column, T.st.n_late, T.st.n_ink, T.st.n_wrap, T.st.n_putting, T.st.n_home, T.st.n_top, T.st.n_bottom, T.st.n_left, T.st.n_right, T.st.n_stops, T.st.n_kept, T.st.n_last, zv, z7, z9, yu, zy, ya, yv, yb, zw, yc, yw, zz, yd, zG, zH, ye, yf, yx, zA, yg, yy, yh, zx, yi, yz, zB, yj, zI, yk]
        exact nx _ _ _
      | false =>
        have hin := of_decide_eq_false hin
        have eN : N S.row.toNat (S.col + (j : Int)).toNat = xx S.ink := by
          rw [← hN]
          unfold mvP
          rw [if_pos (by omega), if_neg (by omega)]
        walk_at "wd"
        refine ⟨x, dx, p, st, kp, _, rfl, hs1, ?_⟩
        simp [hx1, e3 _ eN, and_assoc, zh, T.st.cl, T.st.n_picture, T.st.n_wide, T.st.n_high, T.st.n_row, T.st.n_column, T.st.n_late, T.st.n_ink, T.st.n_wrap, T.st.n_putting, T.st.n_home, T.st.n_top, T.st.n_bottom, T.st.n_left, T.st.n_right, T.st.n_stops, T.st.n_kept, T.st.n_last, zv, z7, z9, yu, zy, ya, yv, yb, zw, yc, yw, zz, yd, zG, zH, ye, yf, yx, zA, yg, yy, yh, zx, yi, yz, zB, yj, zI, yk]
        exact nx _ _ _
    · rintro ρ O2 ⟨v5, v6, v7, rfl, hb2, hs2⟩
      rw [Z9 (fun a' b' h1 h2 => by rw [← hN]; exact xO (by omega)) (fun a' b' h1 h2 => by rw [← hN]; exact xO (by omega)), Ya (fun a' b' h1 => by rw [← hN]; exact xO (by omega))] at hs2
      exact hR1 _ _ ⟨_, _, _, rfl, hb2, hs2⟩
  rintro _ O1 ⟨v5, v6, v7, rfl, hb1, hs1⟩
  have hx1 := hs1.x
  walk_at "wd"
  simp [hx1, yL, and_assoc, zh, T.st.cl, T.st.n_picture, T.st.n_wide, T.st.n_high, T.st.n_row, T.st.n_column, T.st.n_late, T.st.n_ink, T.st.n_wrap, T.st.n_putting, T.st.n_home, T.st.n_top, T.st.n_bottom, T.st.n_left, T.st.n_right, T.st.n_stops, T.st.n_kept, T.st.n_last, zv, z7, z9, yu, zy, ya, yv, yb, zw, yc, yw, zz, yd, zG, zH, ye, yf, yx, zA, yg, yy, yh, zx, yi, yz, zB, yj, zI, yk]
  refine .inl (h _ ?_ (hb1.trans But.ux))
  have := hs1.fld (S' := { S with pic := N, late := false }) rfl rfl rfl
  rw [← hN] at this ⊢
  exact this
theorem Vf (F : Fun K "put_cells" "put_cells" qw f fd) (T : Txt K mg C) (zf2 : Cal P w K mg base 1 "at_least_one" [] (zb K uM)) (zgo : Cal P w K mg base 2 "move_cells" [] (zb K (UZ C))) : FnOk P w K mg base CX0 3 f fd ["state", "many"] (zb K (Y0 C)) := by
  apply F.okV X3 (by rintro _ _ _ ⟨n, _, x, dx, p, st, kp, S, rfl, _⟩; rfl) (fun cdv A outer sh H E hr => (ze (yr (zj zgo (hr.mono (by decide)) rfl (QA.pa (qc (pv 0) (qc (Ul QI (zj zf2 (hr.mono (by decide)) rfl (QA.pa (qc (pv 1) qn)))) qn)))))))
  · walk_at "ref"
  rintro _ O R ⟨n, hn, x, dx, p, st, kp, S, rfl, hs, hB, h⟩
  have o1 := @vK n
  have o2 := uz hn
  walk_at "wd"
  exact ⟨hn, _, by omega, by omega, x, dx, p, st, kp, S, rfl, hs, hB, fun O' h1 h2 => .inl (h O' h1 h2)⟩
theorem VI (F : Fun K "line_end" "line_end" ji f fd) (T : Txt K mg C) (zgA : Cal P w K mg base 2 "to_left_edge" [] (zb K (U0 C))) (zgv : Cal P w K mg base 3 "roll_up" [] (zb K (uq C))) : FnOk P w K mg base CX0 4 f fd ["state"] (zb K (ZD C)) := by
  apply F.okV VB (by rintro _ _ _ ⟨x, dx, p, st, kp, S, rfl, _⟩; rfl) (fun cdv A outer sh H E hr => (za (yr (zj zgA (hr.mono (by decide)) rfl (QA.pa (qc (pv 0) qn))))
      (ze (yA (zW yX (zl (K := K) rfl (pv 0) rfl) (zl (K := K) rfl (pv 0) rfl) (zJ _)) (ze (yr (zj zgv (hr.mono (by decide)) rfl (QA.pa (qc (pv 0) (qc (zl (K := K) rfl (pv 0) rfl) (qc zc qn))))))) (ze (yA (zW qT (zl (K := K) rfl (pv 0) rfl) (zg y6 (zl (K := K) rfl (pv 0) rfl) zc) (zJ _)) (ze (yB (K := K) rfl (pv 0) (zg yC (zl (K := K) rfl (pv 0) rfl) zc) rfl)) z0))))))
  · walk_at "ref"
  rintro _ O R ⟨x, dx, p, st, kp, S, rfl, hs, hB, h⟩
  have hB1 := hB.left
  have := hB1.tb
  walk_at "wd"
  refine ⟨x, dx, p, st, kp, S, rfl, hs, trivial, fun O1 hs1 hb1 => ?_⟩
  have hx1 := hs1.x
  simp only [lineE] at h
  simp [hx1, yL, and_assoc, zh, T.st.cl, T.st.n_picture, T.st.n_wide, T.st.n_high, T.st.n_row, T.st.n_column, T.st.n_late, T.st.n_ink, T.st.n_wrap, T.st.n_putting, T.st.n_home, T.st.n_top, T.st.n_bottom, T.st.n_left, T.st.n_right, T.st.n_stops, T.st.n_kept, T.st.n_last, zv, z7, z9, yu, zy, ya, yv, yb, zw, yc, yw, zz, yd, zG, zH, ye, yf, yx, zA, yg, yy, yh, zx, yi, yz, zB, yj, zI, yk]
  split
  · rename_i e
    rw [if_pos e] at h
    exact ⟨_, 1, by decide, by decide, x, dx, p, st, kp, _, rfl, hs1, ⟨hB1, hB1.t0, by omega⟩, fun O' h1 h2 => .inl (h O' h1 (hb1.trans h2))⟩
  · rename_i e
    rw [if_neg e] at h
    split
    · rename_i e2
      rw [if_pos e2] at h
      exact .inl (h _ (hs1.fld rfl rfl rfl) (hb1.trans But.ux))
    · rename_i e2
      rw [if_neg e2] at h
      exact .inl (h _ hs1 hb1)
theorem VJ (F : Fun K "put_sign" "put_sign" jj f fd) (T : Txt K mg C) (zgm : Cal P w K mg base 4 "line_end" [] (zb K (ZD C))) (zgp : Cal P w K mg base 3 "put_cells" [] (zb K (Y0 C))) (zgf : Cal P w K mg base 1 "edges" [] (zb K (jJ C))) : FnOk P w K mg base CX0 5 f fd ["state", "sign"] (zb K (vN C)) := by
  apply F.okV VC (by rintro _ _ _ ⟨c, x, dx, p, st, kp, S, rfl, _⟩; rfl) (fun cdv A outer sh H E hr => (za (yA (PW.pt (k7 (xj (zl (K := K) rfl (pv 0) rfl)) (j9 (xj (zl (K := K) rfl (pv 0) rfl))))) (ze (yr (zj zgm (hr.mono (by decide)) rfl (QA.pa (qc (pv 0) qn))))) z0)
      (za (yB (K := K) rfl (pv 0) yW rfl)
      (za (yA (xj (zl (K := K) rfl (pv 0) rfl)) (ze (yr (zj zgp (hr.mono (by decide)) rfl (QA.pa (qc (pv 0) (qc zc qn)))))) z0)
      (za (x3 (yD (qc (pv 1) (qc (zl (K := K) rfl (pv 0) rfl) qn))) (vm (yM (yY (K := K) rfl) (zl (K := K) rfl (pv 0) rfl) (zl (K := K) rfl (pv 0) rfl) (fun _ _ => rfl)) (zl (K := K) rfl (pv 0) rfl) xF))
      (za (yB (K := K) rfl (pv 0) (pv 1) rfl)
      (ze (yA (zW qT (zl (K := K) rfl (pv 0) rfl) (yM (x9 (K := K) rfl) (zj zgf (hr.mono (by decide)) rfl (QA.pa (qc (pv 0) qn))) zc (fun _ _ => rfl)) (zJ _)) (ze (yB (K := K) rfl (pv 0) (zg yC (zl (K := K) rfl (pv 0) rfl) zc) rfl)) (ze (yB (K := K) rfl (pv 0) (zl (K := K) rfl (pv 0) rfl) rfl))))))))))
  · walk_at "ref"
  rintro _ O R ⟨c, x, dx, p, st, kp, S, rfl, hs, hB, h⟩
  have hx := hs.x
  rw [vO] at h
  refine yt (fun ρ' O' => ρ' = [some (.own x), some (.d (.str c))] ∧ But O O' x p ∧ StAt O' C x dx p st kp (pA S)) (fun R1 hR1 => ?_) ?_
  · walk_at "wd"
    simp [hx, yL, and_assoc, zh, T.st.cl, T.st.n_picture, T.st.n_wide, T.st.n_high, T.st.n_row, T.st.n_column, T.st.n_late, T.st.n_ink, T.st.n_wrap, T.st.n_putting, T.st.n_home, T.st.n_top, T.st.n_bottom, T.st.n_left, T.st.n_right, T.st.n_stops, T.st.n_kept, T.st.n_last, zv, z7, z9, yu, zy, ya, yv, yb, zw, yc, yw, zz, yd, zG, zH, ye, yf, yx, zA, yg, yy, yh, zx, yi, yz, zB, yj, zI, yk]
    by_cases e : S.late = true ∧ S.wrap = true
    · rw [pA, if_pos e] at hR1
      simp [e.1, e.2]
      exact ⟨x, dx, p, st, kp, S, rfl, hs, hB, fun O' h1 h2 => hR1 _ _ ⟨rfl, h2, h1⟩⟩
    · rw [pA, if_neg e] at hR1
      have := hR1 _ _ ⟨rfl, But.refl, hs⟩
      cases hl : S.late <;> cases hw : S.wrap <;> simp [hl, hw] at e ⊢ <;> exact this
  rintro _ O1 ⟨rfl, hb1, hs1⟩
  have hB1 : Bds (pA S) := hB.pA
  refine yt (fun ρ' O' => ρ' = [some (.own x), some (.d (.str c))] ∧ But O O' x p ∧ StAt O' C x dx p st kp (pB (pA S))) (fun R1 hR1 => ?_) ?_
  · have hx1 := hs1.x
    walk_at "wd"
    simp [hx1, yL, and_assoc, zh, T.st.cl, T.st.n_picture, T.st.n_wide, T.st.n_high, T.st.n_row, T.st.n_column, T.st.n_late, T.st.n_ink, T.st.n_wrap, T.st.n_putting, T.st.n_home, T.st.n_top, T.st.n_bottom, T.st.n_left, T.st.n_right, T.st.n_stops, T.st.n_kept, T.st.n_last, zv, z7, z9, yu, zy, ya, yv, yb, zw, yc, yw, zz, yd, zG, zH, ye, yf, yx, zA, yg, yy, yh, zx, yi, yz, zB, yj, zI, yk]
    exact hR1 _ _ ⟨rfl, hb1.trans But.ux, hs1.fld (S' := pB (pA S)) rfl rfl rfl⟩
  rintro _ O2 ⟨rfl, hb2, hs2⟩
  have hB2 := hB1.pB
  generalize pB (pA S) = S2 at *
  refine yt (fun ρ' O' => ρ' = [some (.own x), some (.d (.str c))] ∧ But O O' x p ∧ StAt O' C x dx p st kp (pC S2)) (fun R1 hR1 => ?_) ?_
  · have hx2 := hs2.x
    walk_at "wd"
    simp [hx2, yL, and_assoc, zh, T.st.cl, T.st.n_picture, T.st.n_wide, T.st.n_high, T.st.n_row, T.st.n_column, T.st.n_late, T.st.n_ink, T.st.n_wrap, T.st.n_putting, T.st.n_home, T.st.n_top, T.st.n_bottom, T.st.n_left, T.st.n_right, T.st.n_stops, T.st.n_kept, T.st.n_last, zv, z7, z9, yu, zy, ya, yv, yb, zw, yc, yw, zz, yd, zG, zH, ye, yf, yx, zA, yg, yy, yh, zx, yi, yz, zB, yj, zI, yk]
    cases hl : S2.putting
    · rw [pC, hl] at hR1
      simp
      exact hR1 _ _ ⟨rfl, hb2, hs2⟩
    · rw [pC, hl, if_pos rfl] at hR1
      simp
      exact ⟨.int 1, ⟨by decide, by decide⟩, x, dx, p, st, kp, S2, rfl, hs2, hB2, fun O' h1 h2 => hR1 _ _ ⟨rfl, hb2.trans h2, h1⟩⟩
  rintro _ O3 ⟨rfl, hb3, hs3⟩
  have hB3 := hB2.pC
  generalize pC S2 = S3 at *
  refine yt (fun ρ' O' => ρ' = [some (.own x), some (.d (.str c))] ∧ But O O' x p ∧ StAt O' C x dx p st kp (pD c S3)) (fun R1 hR1 => ?_) ?_
  · have hx3 := hs3.x
    have := hB3.r0
    have := hB3.r1
    have e1 := y9 hs3.p
    rw [xl] at e1
    have e2 : atI ((List.range S3.h).map (W.row p)) S3.row = some (W.row p S3.row.toNat) := xa hB3.r0 hB3.r1
    have e3 : uI O3 (.row p S3.row.toNat) S3.col (.d (.tuple [.str c, .int S3.ink])) = _ := xI (c := (c, S3.ink)) hs3.p (by omega) hB3.c0 hB3.c1
    walk_at "wd"
    simp [hx3, e1, e2, e3, yP, and_assoc, zh, T.st.cl, T.st.n_picture, T.st.n_wide, T.st.n_high, T.st.n_row, T.st.n_column, T.st.n_late, T.st.n_ink, T.st.n_wrap, T.st.n_putting, T.st.n_home, T.st.n_top, T.st.n_bottom, T.st.n_left, T.st.n_right, T.st.n_stops, T.st.n_kept, T.st.n_last, zv, z7, z9, yu, zy, ya, yv, yb, zw, yc, yw, zz, yd, zG, zH, ye, yf, yx, zA, yg, yy, yh, zx, yi, yz, zB, yj, zI, yk]
    exact hR1 _ _ ⟨rfl, hb3.trans But.up, hs3.pic⟩
  rintro _ O4 ⟨rfl, hb4, hs4⟩
  have hB4 : Bds (pD c S3) := hB3.pD
  generalize pD c S3 = S4 at *
  have hx4 := hs4.x
  refine yt (fun ρ' O' => ρ' = [some (.own x), some (.d (.str c))] ∧ But O O' x p ∧ StAt O' C x dx p st kp (pE c S4)) (fun R1 hR1 => ?_) ?_
  · walk_at "wd"
    simp [hx4, yL, and_assoc, zh, T.st.cl, T.st.n_picture, T.st.n_wide, T.st.n_high, T.st.n_row, T.st.n_column, T.st.n_late, T.st.n_ink, T.st.n_wrap, T.st.n_putting, T.st.n_home, T.st.n_top, T.st.n_bottom, T.st.n_left, T.st.n_right, T.st.n_stops, T.st.n_kept, T.st.n_last, zv, z7, z9, yu, zy, ya, yv, yb, zw, yc, yw, zz, yd, zG, zH, ye, yf, yx, zA, yg, yy, yh, zx, yi, yz, zB, yj, zI, yk]
    exact hR1 _ _ ⟨rfl, hb4.trans But.ux, hs4.fld (S' := pE c S4) rfl rfl rfl⟩
  rintro _ O5 ⟨rfl, hb5, hs5⟩
  generalize pE c S4 = S5 at *
  have hx5 := hs5.x
  simp only [pF] at h
  walk_at "wd"
  simp [hx5, yL, and_assoc, zh, T.st.cl, T.st.n_picture, T.st.n_wide, T.st.n_high, T.st.n_row, T.st.n_column, T.st.n_late, T.st.n_ink, T.st.n_wrap, T.st.n_putting, T.st.n_home, T.st.n_top, T.st.n_bottom, T.st.n_left, T.st.n_right, T.st.n_stops, T.st.n_kept, T.st.n_last, zv, z7, z9, yu, zy, ya, yv, yb, zw, yc, yw, zz, yd, zG, zH, ye, yf, yx, zA, yg, yy, yh, zx, yi, yz, zB, yj, zI, yk]
  refine ⟨x, dx, p, st, kp, S5, rfl, hs5, ?_⟩
  simp [hx5, zdf, yL, and_assoc, zh, T.st.cl, T.st.n_picture, T.st.n_wide, T.st.n_high, T.st.n_row, T.st.n_column, T.st.n_late, T.st.n_ink, T.st.n_wrap, T.st.n_putting, T.st.n_home, T.st.n_top, T.st.n_bottom, T.st.n_left, T.st.n_right, T.st.n_stops, T.st.n_kept, T.st.n_last, zv, z7, z9, yu, zy, ya, yv, yb, zw, yc, yw, zz, yd, zG, zH, ye, yf, yx, zA, yg, yy, yh, zx, yi, yz, zB, yj, zI, yk]
  split
  · rename_i e
    rw [if_pos e] at h
    exact .inl (h _ (hs5.fld rfl rfl rfl) (hb5.trans But.ux))
  · rename_i e
    rw [if_neg e] at h
    exact .inl (h _ (hs5.fld rfl rfl rfl) (hb5.trans But.ux))
end
section
variable {P : Program} {w : World} {K : PySem.W.Frag} {mg : Str → Option Value} {base : Heap} {f C : Addr} {fd : FuncData}
theorem Vg (F : Fun K "roll_down" "roll_down" qt f fd) (T : Txt K mg C) (zgu : Cal P w K mg base 2 "roll_rows" [] (zb K (uq C))) : FnOk P w K mg base CX0 3 f fd ["state", "first", "times"] (zb K (ZC C)) := by
  apply F.okV XZ (by rintro _ _ _ ⟨a, s, _, _, x, dx, p, st, kp, S, rfl, _⟩; rfl) (fun cdv A outer sh H E hr => (ze (yr (zj zgu (hr.mono (by decide)) rfl (QA.pa (qc (pv 0) (qc (pv 1) (qc (Ul QI (pv 2)) qn))))))))
  · walk_at "ref"
  rintro _ O R ⟨a, s, s1, s2, x, dx, p, st, kp, S, rfl, hs, hp, h⟩
  walk_at "wd"
  exact ⟨a, -s, by omega, by omega, x, dx, p, st, kp, S, rfl, hs, hp, fun O' h1 h2 => .inl (h O' h1 h2)⟩
theorem Vh (F : Fun K "put_lines" "put_lines" qu f fd) (T : Txt K mg C) (zf2 : Cal P w K mg base 1 "at_least_one" [] (zb K uM)) (zgt : Cal P w K mg base 3 "roll_down" [] (zb K (ZC C))) : FnOk P w K mg base CX0 4 f fd ["state", "many"] (zb K (UX C)) := by
  apply F.okV X1 (by rintro _ _ _ ⟨n, _, x, dx, p, st, kp, S, rfl, _⟩; rfl) (fun cdv A outer sh H E hr => (za (yA (xC yN yN (zl (K := K) rfl (pv 0) rfl) (zl (K := K) rfl (pv 0) rfl) (zl (K := K) rfl (pv 0) rfl)) (ze (yr (zj zgt (hr.mono (by decide)) rfl (QA.pa (qc (pv 0) (qc (zl (K := K) rfl (pv 0) rfl) (qc (zj zf2 (hr.mono (by decide)) rfl (QA.pa (qc (pv 1) qn))) qn))))))) z0)
      (ze (yB (K := K) rfl (pv 0) yW rfl))))
  · walk_at "ref"
  rintro _ O R ⟨n, hn, x, dx, p, st, kp, S, rfl, hs, hB, h⟩
  have hx := hs.x
  have o1 := @vK n
  have o2 := uz hn
  have := hB.r0
  simp only [u8] at h
  walk_at "wd"
  simp [hx, hn, yL, and_assoc, zh, T.st.cl, T.st.n_picture, T.st.n_wide, T.st.n_high, T.st.n_row, T.st.n_column, T.st.n_late, T.st.n_ink, T.st.n_wrap, T.st.n_putting, T.st.n_home, T.st.n_top, T.st.n_bottom, T.st.n_left, T.st.n_right, T.st.n_stops, T.st.n_kept, T.st.n_last, zv, z7, z9, yu, zy, ya, yv, yb, zw, yc, yw, zz, yd, zG, zH, ye, yf, yx, zA, yg, yy, yh, zx, yi, yz, zB, yj, zI, yk]
  split
  · rename_i e
    rw [if_pos e] at h
    refine ⟨_, _, by omega, by omega, x, dx, p, st, kp, S, rfl, hs, ⟨hB, by omega, e.2⟩, fun O' h1 h2 => ?_⟩
    have hx1 := h1.x
    simp [hx1, yL, and_assoc, zh, T.st.cl, T.st.n_picture, T.st.n_wide, T.st.n_high, T.st.n_row, T.st.n_column, T.st.n_late, T.st.n_ink, T.st.n_wrap, T.st.n_putting, T.st.n_home, T.st.n_top, T.st.n_bottom, T.st.n_left, T.st.n_right, T.st.n_stops, T.st.n_kept, T.st.n_last, zv, z7, z9, yu, zy, ya, yv, yb, zw, yc, yw, zz, yd, zG, zH, ye, yf, yx, zA, yg, yy, yh, zx, yi, yz, zB, yj, zI, yk]
    exact .inl (h _ (h1.fld rfl rfl rfl) (h2.trans But.ux))
  · rename_i e
    rw [if_neg e] at h
    exact .inl (h _ (hs.fld rfl rfl rfl) But.ux)
theorem Vi (F : Fun K "cut_lines" "cut_lines" qv f fd) (T : Txt K mg C) (zf2 : Cal P w K mg base 1 "at_least_one" [] (zb K uM)) (zgv : Cal P w K mg base 3 "roll_up" [] (zb K (uq C))) : FnOk P w K mg base CX0 4 f fd ["state", "many"] (zb K (UY C)) := by
  apply F.okV X2 (by rintro _ _ _ ⟨n, _, x, dx, p, st, kp, S, rfl, _⟩; rfl) (fun cdv A outer sh H E hr => (za (yA (xC yN yN (zl (K := K) rfl (pv 0) rfl) (zl (K := K) rfl (pv 0) rfl) (zl (K := K) rfl (pv 0) rfl)) (ze (yr (zj zgv (hr.mono (by decide)) rfl (QA.pa (qc (pv 0) (qc (zl (K := K) rfl (pv 0) rfl) (qc (zj zf2 (hr.mono (by decide)) rfl (QA.pa (qc (pv 1) qn))) qn))))))) z0)
      (ze (yB (K := K) rfl (pv 0) yW rfl))))
  · walk_at "ref"
  rintro _ O R ⟨n, hn, x, dx, p, st, kp, S, rfl, hs, hB, h⟩
  have hx := hs.x
  have o1 := @vK n
  have o2 := uz hn
  have := hB.r0
  simp only [u8] at h
  walk_at "wd"
  simp [hx, hn, yL, and_assoc, zh, T.st.cl, T.st.n_picture, T.st.n_wide, T.st.n_high, T.st.n_row, T.st.n_column, T.st.n_late, T.st.n_ink, T.st.n_wrap, T.st.n_putting, T.st.n_home, T.st.n_top, T.st.n_bottom, T.st.n_left, T.st.n_right, T.st.n_stops, T.st.n_kept, T.st.n_last, zv, z7, z9, yu, zy, ya, yv, yb, zw, yc, yw, zz, yd, zG, zH, ye, yf, yx, zA, yg, yy, yh, zx, yi, yz, zB, yj, zI, yk]
  split
  · rename_i e
    rw [if_pos e] at h
    refine ⟨_, _, by omega, by omega, x, dx, p, st, kp, S, rfl, hs, ⟨hB, by omega, e.2⟩, fun O' h1 h2 => ?_⟩
    have hx1 := h1.x
    simp [hx1, yL, and_assoc, zh, T.st.cl, T.st.n_picture, T.st.n_wide, T.st.n_high, T.st.n_row, T.st.n_column, T.st.n_late, T.st.n_ink, T.st.n_wrap, T.st.n_putting, T.st.n_home, T.st.n_top, T.st.n_bottom, T.st.n_left, T.st.n_right, T.st.n_stops, T.st.n_kept, T.st.n_last, zv, z7, z9, yu, zy, ya, yv, yb, zw, yc, yw, zz, yd, zG, zH, ye, yf, yx, zA, yg, yy, yh, zx, yi, yz, zB, yj, zI, yk]
    exact .inl (h _ (h1.fld rfl rfl rfl) (h2.trans But.ux))
  · rename_i e
    rw [if_neg e] at h
    exact .inl (h _ (hs.fld rfl rfl rfl) But.ux)
end
section
variable {P : Program} {w : World} {K : PySem.W.Frag} {mg : Str → Option Value} {base : Heap} {f C : Addr} {fd : FuncData}
theorem zbN (F : Fun K "roll" "roll" X0 f fd) (T : Txt K mg C) (zf2 : Cal P w K mg base 1 "at_least_one" [] (zb K uM)) (zgv : Cal P w K mg base 3 "roll_up" [] (zb K (uq C))) (zgt : Cal P w K mg base 3 "roll_down" [] (zb K (ZC C))) : FnOk P w K mg base CX0 4 f fd ["state", "letter", "many"] (zb K (XJ C)) := by
  apply F.okV zbJ (by rintro _ _ _ ⟨up, n, _, x, dx, p, st, kp, S, rfl, _⟩; rfl) (fun cdv A outer sh H E hr => (za (yA (zW yX (pv 1) zd (zJ _)) (ze (yr (zj zgv (hr.mono (by decide)) rfl (QA.pa (qc (pv 0) (qc (zl (K := K) rfl (pv 0) rfl) (qc (zj zf2 (hr.mono (by decide)) rfl (QA.pa (qc (pv 2) qn))) qn))))))) (ze (yA (zW yX (pv 1) zd (zJ _)) (ze (yr (zj zgt (hr.mono (by decide)) rfl (QA.pa (qc (pv 0) (qc (zl (K := K) rfl (pv 0) rfl) (qc (zj zf2 (hr.mono (by decide)) rfl (QA.pa (qc (pv 2) qn))) qn))))))) z0)))
      (ze (yB (K := K) rfl (pv 0) yW rfl))))
  · walk_at "ref"
  rintro _ O R ⟨up, n, hn, x, dx, p, st, kp, S, rfl, hs, hB, h⟩
  have hx := hs.x
  have o1 := @vK n
  have o2 := uz hn
  have t0 := hB.t0
  have tb := hB.tb
  have e1 : ∀ O', StAt O' C x dx p st kp (u7 S.top (if up = true then yJ n else -(yJ n)) S) → StAt (updO O' x (.ins C dx (fldW p st kp (U9 up n S)))) C x dx p st kp (U9 up n S) := fun O' h1 => h1.fld rfl rfl rfl
  cases up with
  | true =>
    have z1 : KO true = Str.ofString "R" := rfl
    rw [z1]
    walk_at "wd"
    simp [hx, hn, yL, and_assoc, zh, T.st.cl, T.st.n_picture, T.st.n_wide, T.st.n_high, T.st.n_row, T.st.n_column, T.st.n_late, T.st.n_ink, T.st.n_wrap, T.st.n_putting, T.st.n_home, T.st.n_top, T.st.n_bottom, T.st.n_left, T.st.n_right, T.st.n_stops, T.st.n_kept, T.st.n_last, zv, z7, z9, yu, zy, ya, yv, yb, zw, yc, yw, zz, yd, zG, zH, ye, yf, yx, zA, yg, yy, yh, zx, yi, yz, zB, yj, zI, yk]
    refine ⟨_, _, by omega, by omega, x, dx, p, st, kp, S, rfl, hs, ⟨hB, by omega, tb⟩, fun O' h1 h2 => ?_⟩
    have hx1 := h1.x
    simp [hx1, yL, and_assoc, zh, T.st.cl, T.st.n_picture, T.st.n_wide, T.st.n_high, T.st.n_row, T.st.n_column, T.st.n_late, T.st.n_ink, T.st.n_wrap, T.st.n_putting, T.st.n_home, T.st.n_top, T.st.n_bottom, T.st.n_left, T.st.n_right, T.st.n_stops, T.st.n_kept, T.st.n_last, zv, z7, z9, yu, zy, ya, yv, yb, zw, yc, yw, zz, yd, zG, zH, ye, yf, yx, zA, yg, yy, yh, zx, yi, yz, zB, yj, zI, yk]
    exact .inl (h _ (e1 _ h1) (h2.trans But.ux))
  | false =>
    have z1 : KO false = Str.ofString "D" := rfl
    have z2 : ¬ (Str.ofString "D" = Str.ofString "R") := by decide
    rw [z1]
    walk_at "wd"
    simp [hx, hn, z2, yL, and_assoc, zh, T.st.cl, T.st.n_picture, T.st.n_wide, T.st.n_high, T.st.n_row, T.st.n_column, T.st.n_late, T.st.n_ink, T.st.n_wrap, T.st.n_putting, T.st.n_home, T.st.n_top, T.st.n_bottom, T.st.n_left, T.st.n_right, T.st.n_stops, T.st.n_kept, T.st.n_last, zv, z7, z9, yu, zy, ya, yv, yb, zw, yc, yw, zz, yd, zG, zH, ye, yf, yx, zA, yg, yy, yh, zx, yi, yz, zB, yj, zI, yk]
    refine ⟨_, _, by omega, by omega, x, dx, p, st, kp, S, rfl, hs, ⟨hB, by omega, tb⟩, fun O' h1 h2 => ?_⟩
    have hx1 := h1.x
    simp [hx1, yL, and_assoc, zh, T.st.cl, T.st.n_picture, T.st.n_wide, T.st.n_high, T.st.n_row, T.st.n_column, T.st.n_late, T.st.n_ink, T.st.n_wrap, T.st.n_putting, T.st.n_home, T.st.n_top, T.st.n_bottom, T.st.n_left, T.st.n_right, T.st.n_stops, T.st.n_kept, T.st.n_last, zv, z7, z9, yu, zy, ya, yv, yb, zw, yc, yw, zz, yd, zG, zH, ye, yf, yx, zA, yg, yy, yh, zx, yi, yz, zB, yj, zI, yk]
    exact .inl (h _ (e1 _ h1) (h2.trans But.ux))
end
section
variable {P : Program} {w : World} {K : PySem.W.Frag} {mg : Str → Option Value} {base : Heap} {f C : Addr} {fd : FuncData}
theorem Vj (F : Fun K "cut_cells" "cut_cells" qy f fd) (T : Txt K mg C) (zf2 : Cal P w K mg base 1 "at_least_one" [] (zb K uM)) (zgo : Cal P w K mg base 2 "move_cells" [] (zb K (UZ C))) : FnOk P w K mg base CX0 3 f fd ["state", "many"] (zb K (Qb C)) := by
  apply F.okV X4 (by rintro _ _ _ ⟨n, _, x, dx, p, st, kp, S, rfl, _⟩; rfl) (fun cdv A outer sh H E hr => (ze (yr (zj zgo (hr.mono (by decide)) rfl (QA.pa (qc (pv 0) (qc (zj zf2 (hr.mono (by decide)) rfl (QA.pa (qc (pv 1) qn))) qn)))))))
  · walk_at "ref"
  rintro _ O R ⟨n, hn, x, dx, p, st, kp, S, rfl, hs, hB, h⟩
  have o1 := @vK n
  have o2 := uz hn
  walk_at "wd"
  exact ⟨hn, _, by omega, by omega, x, dx, p, st, kp, S, rfl, hs, hB, fun O' h1 h2 => .inl (h O' h1 h2)⟩
theorem Yh (F : Fun K "wipe_places" "wipe_places" uh f fd) (T : Txt K mg C) (zf4 : Cal P w K mg base 1 "blank_of" [] (zb K (uO C))) : FnOk P w K mg base CX0 2 f fd ["state", "first", "behind"] (zb K (Y3 C)) := by
  have nd := qM.nd
  apply F.okV qM (by rintro _ _ _ ⟨a, b, _, _, _, _, x, dx, p, st, kp, S, rfl, _⟩; rfl) (fun cdv A outer sh H E hr => (za (xK PassesOwn.never rfl (vY rfl T.n_range (QA.pa (qc (pv 1) (qc (pv 2) qn)))) (yO (i := 3) nd rfl (Or.inl rfl))
      (ze (x3 (zj zf4 (hr.mono (by decide)) rfl (QA.pa (qc (pv 0) qn))) (vm (yM (yY (K := K) rfl) (zl (K := K) rfl (pv 0) rfl) (zg yF (pv 3) (zl (K := K) rfl (pv 0) rfl)) (fun _ _ => rfl)) (zg yH (pv 3) (zl (K := K) rfl (pv 0) rfl)) xF))))
      (ze (yB (K := K) rfl (pv 0) yW rfl))))
  · walk_at "ref"
  rintro _ O R ⟨a, b, a0, a1, b0, b1, x, dx, p, st, kp, S, rfl, hs, ⟨hB, hb⟩, h⟩
  have hx := hs.x
  have w1 := hB.w1
  have w2 := hB.w2
  have h2 := hB.h2
  refine yt (fun ρ' O' => ∃ v, ρ' = [some (.own x), some (.d (.int a)), some (.d (.int b)), v] ∧ But O O' x p ∧ StAt O' C x dx p st kp { S with pic := xD S.pic S.ink S.w a b }) (fun R1 hR1 => ?_) ?_
  · walk_at "wd"
    refine ⟨by omega, by omega, by omega, by omega, ?_⟩
    refine xA.rng (fun i ρ O' => ∃ v, ρ = [some (.own x), some (.d (.int a)), some (.d (.int b)), v] ∧ But O O' x p ∧ StAt O' C x dx p st kp { S with pic := xD S.pic S.ink S.w a (a + i) }) ⟨_, rfl, But.refl, ?_⟩ ?_ ?_
    · rw [show a + ((0 : Nat) : Int) = a by omega, XM]
      exact hs
    · rintro i _ O1 hi ⟨v, rfl, hb1, hs1⟩ R2 hR2
      have hx1 := hs1.x
      have e0 := y9 hs1.p
      rw [xl] at e0
      have hlt : a + i < (S.h : Int) * S.w := by omega
      have q0 : 0 ≤ (a + i) / (S.w : Int) := Int.ediv_nonneg (by omega) (by omega)
      have q1 : (a + i) / (S.w : Int) < S.h := Int.ediv_lt_of_lt_mul (by omega) hlt
      have q2 : 0 ≤ (a + i) % (S.w : Int) := Int.emod_nonneg _ (by omega)
      have q3 : (a + i) % (S.w : Int) < S.w := Int.emod_lt_of_pos _ (by omega)
      have e1 : atI ((List.range S.h).map (W.row p)) ((a + i) / (S.w : Int)) = some (W.row p ((a + i) / (S.w : Int)).toNat) := xa q0 q1
      have e2 := xI (c := xx S.ink) hs1.p (i := ((a + i) / (S.w : Int)).toNat) (k := (a + i) % (S.w : Int)) (by simp only; omega) q2 q3
      have e3 := Jp (f := S.pic) (k := S.ink) (w := S.w) (a := a) (b := a + i) (by omega) (by omega) w1
      walk_at "wd"
      refine ⟨x, dx, p, st, kp, _, rfl, hs1, ?_⟩
      rw [e3] at e2
      have cd : xy (a + i) (S.w : Int) := ⟨by omega, by omega⟩
      simp [hx1, e0, e1, e2, cd, and_assoc, zh, T.st.cl, T.st.n_picture, T.st.n_wide, T.st.n_high, T.st.n_row, T.st.n_column, T.st.n_late, T.st.n_ink, T.st.n_wrap, T.st.n_putting, T.st.n_home, T.st.n_top, T.st.n_bottom, T.st.n_left, T.st.n_right, T.st.n_stops, T.st.n_kept, T.st.n_last, zv, z7, z9, yu, zy, ya, yv, yb, zw, yc, yw, zz, yd, zG, zH, ye, yf, yx, zA, yg, yy, yh, zx, yi, yz, zB, yj, zI, yk]
      refine ⟨by omega, hR2 _ _ ⟨_, rfl, hb1.trans But.up, ?_⟩⟩
      rw [show a + ((i + 1 : Nat) : Int) = a + i + 1 by omega]
      exact hs1.pic (f := xD S.pic S.ink S.w a (a + i + 1))
    · rintro _ O1 ⟨v, rfl, hb1, hs1⟩
      refine hR1 _ _ ⟨_, rfl, hb1, ?_⟩
      by_cases hab : a ≤ b
      · rw [show a + (((b - a).toNat : Nat) : Int) = b by omega] at hs1
        exact hs1
      · rw [show a + (((b - a).toNat : Nat) : Int) = a by omega, XM] at hs1
        rw [zbH (by omega)]
        exact hs1
  rintro _ O1 ⟨v, rfl, hb1, hs1⟩
  have hx1 := hs1.x
  walk_at "wd"
  simp [hx1, yL, and_assoc, zh, T.st.cl, T.st.n_picture, T.st.n_wide, T.st.n_high, T.st.n_row, T.st.n_column, T.st.n_late, T.st.n_ink, T.st.n_wrap, T.st.n_putting, T.st.n_home, T.st.n_top, T.st.n_bottom, T.st.n_left, T.st.n_right, T.st.n_stops, T.st.n_kept, T.st.n_last, zv, z7, z9, yu, zy, ya, yv, yb, zw, yc, yw, zz, yd, zG, zH, ye, yf, yx, zA, yg, yy, yh, zx, yi, yz, zB, yj, zI, yk]
  exact .inl (h _ (hs1.fld (S' := XL a b S) rfl rfl rfl) (hb1.trans But.ux))
theorem YJ (F : Fun K "wipe_cells" "wipe_cells" uS f fd) (T : Txt K mg C) (zf2 : Cal P w K mg base 1 "at_least_one" [] (zb K uM)) (zgG : Cal P w K mg base 2 "wipe_places" [] (zb K (Y3 C))) : FnOk P w K mg base CX0 3 f fd ["state", "many"] (zb K (Qc C)) := by
  have nd := jn.nd
  apply F.okV jn (by rintro _ _ _ ⟨n, _, x, dx, p, st, kp, S, rfl, _⟩; rfl) (fun cdv A outer sh H E hr => (za (zZ (i := 2) nd rfl (Or.inl rfl) (zg xB (zl (K := K) rfl (pv 0) rfl) (zl (K := K) rfl (pv 0) rfl)))
      (za (zZ (i := 3) nd rfl (Or.inl rfl) (y7 (x4 rfl) (by rfl) T.n_min (by rfl) (QA.pa (qc (zg yC (zl (K := K) rfl (pv 0) rfl) (zj zf2 (hr.mono (by decide)) rfl (QA.pa (qc (pv 1) qn)))) (qc (zl (K := K) rfl (pv 0) rfl) qn)))))
      (ze (yr (zj zgG (hr.mono (by decide)) rfl (QA.pa (qc (pv 0) (qc (zg yC (pv 2) (zl (K := K) rfl (pv 0) rfl)) (qc (zg yC (pv 2) (pv 3)) qn))))))))))
  · walk_at "ref"
  rintro _ O R ⟨n, hn, x, dx, p, st, kp, S, rfl, hs, hB, h⟩
  have hx := hs.x
  have o1 := @vK n
  have o2 := uz hn
  walk_at "wd"
  simp [hx, and_assoc, zh, T.st.cl, T.st.n_picture, T.st.n_wide, T.st.n_high, T.st.n_row, T.st.n_column, T.st.n_late, T.st.n_ink, T.st.n_wrap, T.st.n_putting, T.st.n_home, T.st.n_top, T.st.n_bottom, T.st.n_left, T.st.n_right, T.st.n_stops, T.st.n_kept, T.st.n_last, zv, z7, z9, yu, zy, ya, yv, yb, zw, yc, yw, zz, yd, zG, zH, ye, yf, yx, zA, yg, yy, yh, zx, yi, yz, zB, yj, zI, yk]
  have r0 := hB.r0
  have r1 := hB.r1
  have c0 := hB.c0
  have c1 := hB.c1
  have w2 := hB.w2
  have h2 := hB.h2
  have m0 : 0 ≤ S.row * (S.w : Int) := Int.mul_nonneg r0 (by omega)
  have m1 : (S.row + 1) * (S.w : Int) ≤ (S.h : Int) * S.w := Int.mul_le_mul_of_nonneg_right (by omega) (by omega)
  have m2 : (S.h : Int) * S.w ≤ 12 * 24 := Int.mul_le_mul (by omega) (by omega) (by omega) (by omega)
  rw [Int.add_mul] at m1
  refine ⟨mulL (by omega) (by omega), hn, _, _, by omega, by omega, by split <;> omega, by split <;> omega, x, dx, p, st, kp, S, rfl, hs, ⟨hB, by split <;> omega⟩, fun O' h1 h2 => .inl (h O' h1 h2)⟩
end
section
variable {P : Program} {w : World} {K : PySem.W.Frag} {mg : Str → Option Value} {base : Heap} {f C : Addr} {fd : FuncData}
theorem zbO (F : Fun K "wipe" "wipe" X5 f fd) (T : Txt K mg C) (zgG : Cal P w K mg base 2 "wipe_places" [] (zb K (Y3 C))) : FnOk P w K mg base CX0 3 f fd ["state", "way"] (zb K (Qd C)) := by
  have nd := Ue.nd
  apply F.okV Ue (by rintro _ _ _ ⟨x, dx, p, st, kp, S, m, rfl, _⟩; rfl) (fun cdv A outer sh H E hr => (za (zZ (i := 2) nd rfl (Or.inl rfl) (zg xB (zl (K := K) rfl (pv 0) rfl) (zl (K := K) rfl (pv 0) rfl)))
      (za (zZ (i := 3) nd rfl (Or.inl rfl) (zg yC (pv 2) (zl (K := K) rfl (pv 0) rfl)))
      (za (zZ (i := 4) nd rfl (Or.inl rfl) (zg yC (pv 2) (zl (K := K) rfl (pv 0) rfl)))
      (za (zZ (i := 5) nd rfl (Or.inl rfl) (zg xB (zl (K := K) rfl (pv 0) rfl) (zl (K := K) rfl (pv 0) rfl)))
      (za (zZ (i := 6) nd rfl (Or.inl rfl) (uw (yR zc (yD (qc (pv 4) (qc (pv 3) qn))) (yR zc (yD (qc (pv 2) (qc (zg yC (pv 4) zc) qn))) (yR zc (yD (qc (pv 2) (qc (pv 3) qn))) (yR zc (yD (qc (pv 4) (qc (pv 5) qn))) (yR zc (yD (qc zc (qc (zg yC (pv 4) zc) qn))) (yR zc (yD (qc zc (qc (pv 5) qn))) uv)))))) rfl rfl (by decide) (by decide)))
      (za (zZ (i := 7) nd rfl (Or.inl rfl) (Xk (zk hr) (pv 6) (xg (zW vB (pv 1) yZ (zJ _)) zc (pv 1)) (yD (qc zc (qc zc qn))) ⟨rfl, rfl, rfl, rfl⟩))
      (ze (yr (zj zgG (hr.mono (by decide)) rfl (QA.pa (qc (pv 0) (qc (yM (x9 (K := K) rfl) (pv 7) zc (fun _ _ => rfl)) (qc (yM (x9 (K := K) rfl) (pv 7) zc (fun _ _ => rfl)) qn))))))))))))))
  · walk_at "ref"
  rintro _ O R ⟨x, dx, p, st, kp, S, m, rfl, hm, hs, hB, h⟩
  have hx := hs.x
  obtain ⟨q0, q1, q2⟩ := Qe hB
  have w2 := hB.w2
  have h2 := hB.h2
  have r0 := hB.r0
  have r1 := hB.r1
  refine ZI (fun ρ' O' => ρ' = [some (.own x), some (.d m), some (.d (.int (S.row * S.w))), some (.d (.int (S.row * S.w + S.w))), none, none, none, none] ∧ O = O') (fun R1 hR1 => ?_) ?_
  · walk_at "wd"
    simp [hx, and_assoc, zh, T.st.cl, T.st.n_picture, T.st.n_wide, T.st.n_high, T.st.n_row, T.st.n_column, T.st.n_late, T.st.n_ink, T.st.n_wrap, T.st.n_putting, T.st.n_home, T.st.n_top, T.st.n_bottom, T.st.n_left, T.st.n_right, T.st.n_stops, T.st.n_kept, T.st.n_last, zv, z7, z9, yu, zy, ya, yv, yb, zw, yc, yw, zz, yd, zG, zH, ye, yf, yx, zA, yg, yy, yh, zx, yi, yz, zB, yj, zI, yk]
    exact ⟨mulL (by omega) (by omega), hR1 _ _ ⟨rfl, rfl⟩⟩
  rintro _ _ ⟨rfl, rfl⟩
  refine ZI (fun ρ' O' => ρ' = [some (.own x), some (.d m), some (.d (.int (S.row * S.w))), some (.d (.int (S.row * S.w + S.w))), some (.d (.int (S.row * S.w + S.col))), some (.d (.int (S.w * S.h))), none, none] ∧ O = O') (fun R1 hR1 => ?_) ?_
  · walk_at "wd"
    simp [hx, and_assoc, zh, T.st.cl, T.st.n_picture, T.st.n_wide, T.st.n_high, T.st.n_row, T.st.n_column, T.st.n_late, T.st.n_ink, T.st.n_wrap, T.st.n_putting, T.st.n_home, T.st.n_top, T.st.n_bottom, T.st.n_left, T.st.n_right, T.st.n_stops, T.st.n_kept, T.st.n_last, zv, z7, z9, yu, zy, ya, yv, yb, zw, yc, yw, zz, yd, zG, zH, ye, yf, yx, zA, yg, yy, yh, zx, yi, yz, zB, yj, zI, yk]
    exact ⟨mulL (by omega) (by omega), hR1 _ _ ⟨rfl, rfl⟩⟩
  rintro _ _ ⟨rfl, rfl⟩
  refine yt (fun ρ' O' => ∃ b, O b = none ∧ ρ' = [some (.own x), some (.d m), some (.d (.int (S.row * S.w))), some (.d (.int (S.row * S.w + S.w))), some (.d (.int (S.row * S.w + S.col))), some (.d (.int (S.w * S.h))), some (.own b), none] ∧ O' = updO O b (.dK [(Sum.inl 0, .d (.tuple [.int (S.row * S.w + S.col), .int (S.row * S.w + S.w)])), (Sum.inl 1, .d (.tuple [.int (S.row * S.w), .int (S.row * S.w + S.col + 1)])), (Sum.inl 2, .d (.tuple [.int (S.row * S.w), .int (S.row * S.w + S.w)])), (Sum.inl 3, .d (.tuple [.int (S.row * S.w + S.col), .int (S.w * S.h)])), (Sum.inl 4, .d (.tuple [.int 0, .int (S.row * S.w + S.col + 1)])), (Sum.inl 5, .d (.tuple [.int 0, .int (S.w * S.h)]))])) (fun R1 hR1 => ?_) ?_
  · walk_at "wd"
    intro b hb
    exact ⟨_, rfl, by show (6 : Nat) ≤ 15; decide, hR1 _ _ ⟨b, hb, rfl, rfl⟩⟩
  rintro _ O1 ⟨b, hb, rfl, rfl⟩
  have ob : Old O (updO O b (.dK [(Sum.inl 0, .d (.tuple [.int (S.row * S.w + S.col), .int (S.row * S.w + S.w)])), (Sum.inl 1, .d (.tuple [.int (S.row * S.w), .int (S.row * S.w + S.col + 1)])), (Sum.inl 2, .d (.tuple [.int (S.row * S.w), .int (S.row * S.w + S.w)])), (Sum.inl 3, .d (.tuple [.int (S.row * S.w + S.col), .int (S.w * S.h)])), (Sum.inl 4, .d (.tuple [.int 0, .int (S.row * S.w + S.col + 1)])), (Sum.inl 5, .d (.tuple [.int 0, .int (S.w * S.h)]))])) := Old.refl.upd hb
  refine yt (fun ρ' O' => ρ' = [some (.own x), some (.d m), some (.d (.int (S.row * S.w))), some (.d (.int (S.row * S.w + S.w))), some (.d (.int (S.row * S.w + S.col))), some (.d (.int (S.w * S.h))), some (.own b), some (.d (.tuple [.int (spI (kU m) S).1, .int (spI (kU m) S).2]))] ∧ Old O O') (fun R1 hR1 => ?_) ?_
  · have key : ∀ y : Int, (y8 [((Sum.inl 0 : Key), W.d (.tuple [.int (S.row * S.w + S.col), .int (S.row * S.w + S.w)])), (Sum.inl 1, .d (.tuple [.int (S.row * S.w), .int (S.row * S.w + S.col + 1)])), (Sum.inl 2, .d (.tuple [.int (S.row * S.w), .int (S.row * S.w + S.w)])), (Sum.inl 3, .d (.tuple [.int (S.row * S.w + S.col), .int (S.w * S.h)])), (Sum.inl 4, .d (.tuple [.int 0, .int (S.row * S.w + S.col + 1)])), (Sum.inl 5, .d (.tuple [.int 0, .int (S.w * S.h)]))] (Sum.inl y)).getD (.d (.tuple [.int 0, .int 0])) = .d (.tuple [.int (spI y S).1, .int (spI y S).2]) := fun y => by
      unfold spI y8
      by_cases e0 : y = 0
      · subst e0; rfl
      by_cases e1 : y = 1
      · subst e1; rfl
      by_cases e2 : y = 2
      · subst e2; rfl
      by_cases e3 : y = 3
      · subst e3; rfl
      by_cases e4 : y = 4
      · subst e4; rfl
      by_cases e5 : y = 5
      · subst e5; rfl
      simp [e0, e1, e2, e3, e4, e5, List.find?_cons, Ne.symm e0, Ne.symm e1, Ne.symm e2, Ne.symm e3, Ne.symm e4, Ne.symm e5]
    rcases hm.cs with rfl | ⟨i, rfl, _, _⟩
    · walk_at "wd"
      simp only [key]
      exact hR1 _ _ ⟨rfl, ob⟩
    · walk_at "wd"
      simp only [key]
      exact hR1 _ _ ⟨rfl, ob⟩
  rintro _ O2 ⟨rfl, o2⟩
  obtain ⟨i0, i1, i2, i3, i4⟩ := zdm hB (kU m)
  walk_at "wd"
  refine ⟨_, rfl, _, rfl, _, _, i0, i1, i2, i3, x, dx, p, st, kp, S, rfl, hs.old o2, ⟨hB, by rw [Int.mul_comm]; exact i4⟩, fun O' h1 h2 => .inl (h O' h1 fun c c1 c2 c3 => ?_)⟩
  rw [h2 c c1 c2]
  exact o2 c c3
end
section
variable {P : Program} {w : World} {K : PySem.W.Frag} {mg : Str → Option Value} {base : Heap} {f C : Addr} {fd : FuncData}
theorem j7 {d : Value} (F : FunD K "blank_row" "blank_row" vp [d] f fd) (T : Txt K mg C) : FnOk P w K mg base CX0 1 f fd ["wide", "ink"] (zb K qb) := by
  apply F.okV XX (by rintro _ _ _ ⟨a, i, rfl, _⟩; rfl) (fun cdv A outer sh H E hr => (ze (zY (zc0 (qV (N := ["column", "ink"]) (n := 1) (js := [1])) rfl (xP rfl T.n_range (QA.pa (qc (pv 0) qn))) (fun _ _ _ _ => (yO (i := 0) (show List.Nodup (["column", "ink"] : List Str) by decide +kernel) rfl (Or.inl rfl))) (fun _ _ _ _ => uu) (fun _ _ _ _ => (yD (qc zd (qc (pv 1) qn))))))))
  · walk_at "ref"
  rintro _ O R ⟨a, i, rfl, ha, h⟩
  walk_at "wd"
  refine ⟨by omega, by omega, fun _ => some (yE (xx i)), ?_, fun p hp => .inl ?_⟩
  · intro k hk us hus
    match us, hus with
    | [u], _ => simp [yP, yE, xx]
  · have := h p hp
    simpa [List.filterMap_map, Function.comp_def] using this
theorem u5 {d : Value} (F : FunD K "blank_picture" "blank_picture" xE [d] f fd) (T : Txt K mg C) (zgk : Cal P w K mg base 2 "is_size" [] (zb K UT)) (zf7 : Cal P w K mg base 1 "blank_row" [] (zb K qb)) :
    FnOk P w K mg base CX0 3 f fd ["wide", "high", "ink"] (zb K qd) := by
  apply F.okV kW (by rintro _ _ _ ⟨a, b, i, rfl, _⟩; rfl) (fun cdv A outer sh H E hr => (za (yA (vX (xj (zj zgk (hr.mono (by decide)) rfl (QA.pa (qc (pv 0) (qc (pv 1) qn)))))) (ze Jz) z0)
      (ze (zY (zc1 (qV (N := ["row", "wide", "ink"]) (n := 1) (js := [0, 2])) rfl (xP rfl T.n_range (QA.pa (qc (pv 1) qn))) (fun _ _ _ _ => (yO (i := 0) (show List.Nodup (["row", "wide", "ink"] : List Str) by decide +kernel) rfl (Or.inl rfl))) (fun _ _ _ _ => uu) (fun _ _ _ _ => (zj zf7 (hr.mono (by decide)) rfl (QA.pa (qc (pv 1) (qc (pv 2) qn))))))))))
  · walk_at "ref"
  rintro _ O R ⟨a, b, i, rfl, a1, a2, b1, b2, h⟩
  walk_at "wd"
  refine ⟨a, b, rfl, a1, a2, b1, b2, ?_⟩
  simp
  refine ⟨by omega, by omega, fun _ => (List.range a).map fun _ => yE (xx i), ?_, fun p hp => .inl ?_⟩
  · intro k hk us hus
    match us, hus with
    | [u], _ =>
      simp
      exact ⟨a, i, rfl, a2, fun p hp => ⟨p, hp, rfl, by simp⟩⟩
  · have := h p hp
    simpa [genG, Function.comp_def] using this
theorem Yi (F : Fun K "first_stops" "first_stops" ug f fd) (T : Txt K mg C) : FnOk P w K mg base CX0 1 f fd ["wide"] (zb K Xz) := by
  apply F.okV Yd (by rintro _ _ _ ⟨a, rfl, _⟩; rfl) (fun cdv A outer sh H E hr => (ze (zY (vy (zbB (K := K) rfl rfl) (by rfl) T.n_dict rfl (QA.pa (qc (u6 (qV (N := ["column"]) (n := 1) (js := [])) rfl (QX rfl T.n_range (QA.pa (qc (Zp rfl T.g_TAB_STEP) (qc (pv 0) (qc (Zp rfl T.g_TAB_STEP) qn))))) (fun _ _ _ _ => (yO (i := 0) (show List.Nodup (["column"] : List Str) by decide +kernel) rfl (Or.inl rfl))) (fun _ _ _ _ => uu) (fun _ _ _ _ => (yD (qc (pv 0) (qc yW qn))))) qn))))))
  · walk_at "ref"
  rintro _ O R ⟨a, rfl, a1, a2, h⟩
  walk_at "wd"
  refine ⟨_, r3w a1 a2, by omega, fun v => match v with | .d (.int k) => some (.tuple [.int k, .bool true]) | _ => none, ?_, ?_⟩
  · intro k hk us hus
    match us, hus with
    | [u], _ => simp [yP]
  · have e1 : ∀ (g : Nat → Int) (l : List Nat), List.filterMap ((fun v => match v with | W.d (PyData.int k) => some (PyData.tuple [PyData.int k, PyData.bool true]) | _ => none) ∘ fun k => W.d (PyData.int (g k))) l = l.map fun k => PyData.tuple [.int (g k), .bool true] := fun g l => congrFun (List.filterMap_eq_map (f := fun k => PyData.tuple [.int (g k), .bool true])) l
    have e2 : ∀ (g : Nat → Int) (l : List Nat), vC (l.map fun k => PyData.tuple [.int (g k), .bool true]) = some (l.map fun k => (Sum.inl (g k), PyData.bool true)) := fun g l => by
      induction l with
      | nil => rfl
      | cons k l ih => simp [vC, ih]
    rw [e1 (fun k => 4 + (k : Int) * 4)]
    refine ⟨_, rfl, _, e2 _ _, by simp; omega, fun p hp => .inl ?_⟩
    have := h p hp
    rw [List.map_map, ZF (by have := KF a2; simpa [qK, Function.comp_def] using this)]
    simpa [qK, Function.comp_def] using this
theorem Yj (F : Fun K "begin" "State.begin" xu f fd) (T : Txt K mg C) (zgg : Cal P w K mg base 1 "first_stops" [] (zb K Xz)) : FnOk P w K mg base CX0 2 f fd ["self"] (zb K (XA C)) := by
  apply F.okV Yc (by rintro _ _ _ ⟨x, dx, p, w, h, rfl, _⟩; rfl) (fun cdv A outer sh H E hr => (za (yB (K := K) rfl (pv 0) zc rfl)
      (za (yB (K := K) rfl (pv 0) zc rfl)
      (za (yB (K := K) rfl (pv 0) yW rfl)
      (za (yB (K := K) rfl (pv 0) zc rfl)
      (za (yB (K := K) rfl (pv 0) yW rfl)
      (za (yB (K := K) rfl (pv 0) yW rfl)
      (za (yB (K := K) rfl (pv 0) yW rfl)
      (za (yB (K := K) rfl (pv 0) zc rfl)
      (za (yB (K := K) rfl (pv 0) (zg y6 (zl (K := K) rfl (pv 0) rfl) zc) rfl)
      (za (yB (K := K) rfl (pv 0) zc rfl)
      (za (yB (K := K) rfl (pv 0) (zg y6 (zl (K := K) rfl (pv 0) rfl) zc) rfl)
      (za (yB (K := K) rfl (pv 0) (zj zgg (hr.mono (by decide)) rfl (QA.pa (qc (zl (K := K) rfl (pv 0) rfl) qn))) rfl)
      (za (yB (K := K) rfl (pv 0) (Z6 qn) rfl)
      (ze (yB (K := K) rfl (pv 0) yZ rfl))))))))))))))))
  · walk_at "ref"
  rintro _ O R ⟨x, dx, p, a, b, rfl, hx, a1, a2, h⟩
  walk_at "wd"
  simp [hx, zem, zen, zeo, zep, zeq, zer, zes, zdR, zdS, zdT, zdU, U3, U4, U5, and_assoc, zh, T.st.cl, T.st.n_picture, T.st.n_wide, T.st.n_high, T.st.n_row, T.st.n_column, T.st.n_late, T.st.n_ink, T.st.n_wrap, T.st.n_putting, T.st.n_home, T.st.n_top, T.st.n_bottom, T.st.n_left, T.st.n_right, T.st.n_stops, T.st.n_kept, T.st.n_last, zv, z7, z9, yu, zy, ya, yv, yb, zw, yc, yw, zz, yd, zG, zH, ye, yf, yx, zA, yg, yy, yh, zx, yi, yz, zB, yj, zI, yk]
  refine ⟨a, rfl, a1, a2, fun st hst => ?_⟩
  have nsx : st ≠ x := fun e => by rw [e, zn] at hst; cases hst
  rw [zi nsx] at hst
  simp [zi (Ne.symm nsx), zn, zdV, zaD, and_assoc, zh, T.st.cl, T.st.n_picture, T.st.n_wide, T.st.n_high, T.st.n_row, T.st.n_column, T.st.n_late, T.st.n_ink, T.st.n_wrap, T.st.n_putting, T.st.n_home, T.st.n_top, T.st.n_bottom, T.st.n_left, T.st.n_right, T.st.n_stops, T.st.n_kept, T.st.n_last, zv, z7, z9, yu, zy, ya, yv, yb, zw, yc, yw, zz, yd, zG, zH, ye, yf, yx, zA, yg, yy, yh, zx, yi, yz, zB, yj, zI, yk]
  intro kp hkp
  have nkx : kp ≠ x := fun e => by rw [e, zn] at hkp; cases hkp
  rw [zi nkx] at hkp
  have nks : kp ≠ st := fun e => by rw [e, zn] at hkp; cases hkp
  rw [zi nks, zi nkx] at hkp
  simp [zi (Ne.symm nkx), zn, vA, zaD, zdW, and_assoc, zh, T.st.cl, T.st.n_picture, T.st.n_wide, T.st.n_high, T.st.n_row, T.st.n_column, T.st.n_late, T.st.n_ink, T.st.n_wrap, T.st.n_putting, T.st.n_home, T.st.n_top, T.st.n_bottom, T.st.n_left, T.st.n_right, T.st.n_stops, T.st.n_kept, T.st.n_last, zv, z7, z9, yu, zy, ya, yv, yb, zw, yc, yw, zz, yd, zG, zH, ye, yf, yx, zA, yg, yy, yh, zx, yi, yz, zB, yj, zI, yk]
  refine .inl (h st kp _ hst hkp zn ?_ ?_ fun b h1 h2 h3 => ?_)
  · rw [zi nsx, zi (Ne.symm nks), zi nsx, zn]
  · rw [zi nkx, zn]
  · rw [zi h1, zi h3, zi h1, zi h2, zi h1]
theorem YK (F : Fun K "__init__" "State.__init__" xb f fd) (T : Txt K mg C) (zf6 : Cal P w K mg base 3 "blank_picture" [.int 0] (zb K qd)) (zfD : CalT P w K mg base 2 "begin" C (zb K (XA C))) : FnOk P w K mg base CX0 4 f fd ["self", "wide", "high"] (zb K (U1 C)) := by
  apply F.okV ko (by rintro _ _ _ ⟨x, dx, w, h, rfl, _⟩; rfl) (fun cdv A outer sh H E hr => (za (yB (K := K) rfl (pv 0) (zj zf6 (hr.mono (by decide)) rfl (QA.pa (qc (pv 1) (qc (pv 2) qn)))) rfl)
      (za (yB (K := K) rfl (pv 0) (pv 1) rfl)
      (za (yB (K := K) rfl (pv 0) (pv 2) rfl)
      (ze (yr (za6 zfD (hr.mono (by decide)) (pv 0))))))))
  · walk_at "ref"
  rintro _ O R ⟨x, dx, a, b, rfl, hx, a1, a2, b1, b2, h⟩
  walk_at "wd"
  refine ⟨a, b, 0, rfl, a1, a2, b1, b2, fun p hp => ?_⟩
  have npx : p ≠ x := fun e => by rw [e, hx] at hp; cases hp
  simp [zi (Ne.symm npx), hx, zet, zeu, zev, U2, and_assoc, zh, T.st.cl, T.st.n_picture, T.st.n_wide, T.st.n_high, T.st.n_row, T.st.n_column, T.st.n_late, T.st.n_ink, T.st.n_wrap, T.st.n_putting, T.st.n_home, T.st.n_top, T.st.n_bottom, T.st.n_left, T.st.n_right, T.st.n_stops, T.st.n_kept, T.st.n_last, zv, z7, z9, yu, zy, ya, yv, yb, zw, yc, yw, zz, yd, zG, zH, ye, yf, yx, zA, yg, yy, yh, zx, yi, yz, zB, yj, zI, yk]
  refine ⟨by rintro c d (⟨rfl, _⟩ | ⟨rfl, _⟩ | ⟨rfl, _⟩) <;> decide, x, dx, p, a, b, rfl, zn, a1, a2, fun st kp O' hst hkp h1 h2 h3 h4 => .inl ?_⟩
  have nsx : st ≠ x := fun e => by rw [e, zn] at hst; cases hst
  rw [zi nsx] at hst
  have nsp : st ≠ p := fun e => by rw [e, zn] at hst; cases hst
  rw [zi nsp] at hst
  have nkx : kp ≠ x := fun e => by rw [e, zn] at hkp; cases hkp
  rw [zi nkx] at hkp
  have nkp : kp ≠ p := fun e => by rw [e, zn] at hkp; cases hkp
  rw [zi nkp] at hkp
  refine h p st kp O' hp hst hkp ⟨h1, ?_, h2, h3⟩ fun c q1 q2 q3 q4 => ?_
  · rw [h4 p npx (Ne.symm nsp) (Ne.symm nkp), zi npx, zn]
    rfl
  · rw [h4 c q1 q3 q4, zi q1, zi q2]
end
section
variable {P : Program} {w : World} {K : PySem.W.Frag} {mg : Str → Option Value} {base : Heap} {f C : Addr} {fd : FuncData}
theorem Vk (F : Fun K "_law_sizes" "_law_sizes" uV f fd) (T : Txt K mg C) (zfR : Cal P w K mg base 1 "_law_mixed" [] (zb K uN)) : FnOk P w K mg base CX0 2 f fd ["_law_cell"] (zb K XC) := by
  have nd := jq.nd
  apply F.okV jq (by rintro _ _ _ ⟨c, rfl, _⟩; rfl) (fun cdv A outer sh H E hr => (za (zZ (i := 1) nd rfl (Or.inl rfl) (zg yF (zj zfR (hr.mono (by decide)) rfl (QA.pa (qc (pv 0) (qc zc qn)))) zc))
      (za (zZ (i := 2) nd rfl (Or.inl rfl) (zg yH (zg yF (pv 1) zc) zc))
      (za (zZ (i := 3) nd rfl (Or.inl rfl) (zg yF (pv 1) zc))
      (za (yA (zW yX (zg yH (zg yF (pv 1) zc) zc) zc (zJ _)) (ze (zY (yD (qc zc (qc zc qn))))) z0)
      (za (zZ (i := 4) nd rfl (Or.inl rfl) (zg yC zc (zg yH (pv 1) (yM (yY (K := K) rfl) (xr (qc zc (qc zc (qc zc (qc zc qn))))) (pv 2) (fun _ _ => rfl)))))
      (ze (zY (yD (qc (pv 4) (qc (zg yC zc (zg yH (pv 3) (yM (yY (K := K) rfl) (xr (qc zc (qc zc (qc zc (qc zc qn))))) (pv 2) (fun _ _ => rfl)))) qn)))))))))))
  · walk_at "ref"
  rintro _ O R ⟨c, rfl, hb, h⟩
  have m0 := vL c 1
  have m1 := zbA c 1
  have fin : ∀ a b : Int, 1 ≤ a → a ≤ 24 → 1 ≤ b → b ≤ 12 → Clo R (.d (.tuple [.int a, .int b])) O := fun a b a1 a2 b1 b2 => by
    have := h a.toNat b.toNat (by omega) (by omega) (by omega) (by omega)
    rw [Int.toNat_of_nonneg (by omega), Int.toNat_of_nonneg (by omega)] at this
    exact .inl this
  refine ZE (fun ρ' O' => ρ' = [some (.d (.int c)), some (.d (.int (xT c 1 / 8))), some (.d (.int (xT c 1 / 8 / 24 % 4))), some (.d (.int (xT c 1 / 8 / 96))), none] ∧ O = O') (fun R1 hR1 => ?_) ?_
  · walk_at "wd"
    simp [xy, hb]
    exact hR1 _ _ ⟨rfl, rfl⟩
  rintro _ _ ⟨rfl, rfl⟩
  generalize xT c 1 / 8 = m at *
  walk_at "wd"
  simp [xy]
  split
  · exact fin 24 12 (by decide) (by decide) (by decide) (by decide)
  · have hw : m / 24 % 4 = 0 ∨ m / 24 % 4 = 1 ∨ m / 24 % 4 = 2 ∨ m / 24 % 4 = 3 := by omega
    rcases hw with e | e | e | e <;> rw [e] <;> simp [atI, ixN, yS] <;> exact fin _ _ (by omega) (by omega) (by omega) (by omega)
theorem kq (F : Fun K "_law_right_edge" "_law_right_edge" vh f fd) (T : Txt K mg C) : FnOk P w K mg base CX0 1 f fd ["_law_own"] (zb K qL) := by
  apply F.okV jW (by rintro _ _ _ ⟨d, q, S, rfl, _⟩; rfl) (fun cdv A outer sh H E hr => (za (yA (zW yN (zf (zk hr) (pv 0) zd (fun _ _ => rfl)) (zf (zk hr) (pv 0) zd (fun _ _ => rfl)) (zJ _)) (ze (zY (zf (zk hr) (pv 0) zd (fun _ _ => rfl)))) z0)
      (ze (zY (zg y6 (zf (zk hr) (pv 0) zd (fun _ _ => rfl)) zc)))))
  · walk_at "ref"
  rintro _ O R ⟨d, q, S, rfl, hd, h⟩
  walk_at "wd"
  simp [hd, and_assoc, zh, zK, zL, yl, zM, zC, zq, zD, zN, zo, zO, zP, zQ, ym, yn, zr, yo, zt, zR, yp, zS, zp, zT, yq, zu, zU, zE, zV, zF]
  split
  · rename_i e; rw [eR, if_pos e] at h; exact .inl h
  · rename_i e; rw [eR, if_neg e] at h; exact .inl h
theorem j8 (F : Fun K "_law_drawn_cells" "_law_drawn_cells" vc f fd) (T : Txt K mg C) (zfR : Cal P w K mg base 1 "_law_mixed" [] (zb K uN)) : FnOk P w K mg base CX0 2 f fd ["_law_cell", "_law_wide", "_law_high"] (zb K XD) := by
  have nd := vG.nd
  apply F.okV vG (by rintro _ _ _ ⟨c, a, b, rfl, _⟩; rfl) (fun cdv A outer sh H E hr => (za (zZ (i := 3) nd rfl (Or.inl rfl) zd)
      (za (zZ (i := 3) nd rfl (Or.inl rfl) (zg Us (pv 3) zd))
      (za (zZ (i := 4) nd rfl (Or.inl rfl) (zg yF (zj zfR (hr.mono (by decide)) rfl (QA.pa (qc (pv 0) (qc zc qn)))) zc))
      (za (zZ (i := 5) nd rfl (Or.inl rfl) V8)
      (za (xK PassesOwn.never rfl (xP rfl T.n_range (QA.pa (qc (pv 2) qn))) (yO (i := 6) nd rfl (Or.inl rfl))
      (za (zZ (i := 7) nd rfl (Or.inl rfl) (Z6 qn))
      (za (xK PassesOwn.never rfl (xP rfl T.n_range (QA.pa (qc (pv 1) qn))) (yO (i := 8) nd rfl (Or.inl rfl))
      (za (zZ (i := 9) nd rfl (Or.inl rfl) (zg yC (zg xB zc (pv 6)) (pv 8)))
      (za (zZ (i := 10) nd rfl (Or.inl rfl) (yM Xd (pv 3) (zg yH (zg yC (pv 4) (zg xB zc (pv 9))) (y7 Xf (by rfl) T.n_len (by rfl) (QA.pa (qc (pv 3) qn)))) (fun _ _ => rfl)))
      (ze (yr (uc (K := K) rfl PySem.F.plainAttrs_list PySem.F.slot_list_append PySem.F.type_list_append vz (pv 7) (QA.pa (qc (yD (qc (pv 10) (qc (zg yH (zg yF (zj zfR (hr.mono (by decide)) rfl (QA.pa (qc (pv 0) (qc (zg yC zc (pv 9)) qn)))) zc) zc) qn))) qn))))))))
      (ze (yr (uc (K := K) rfl PySem.F.plainAttrs_list PySem.F.slot_list_append PySem.F.type_list_append vz (pv 5) (QA.pa (qc (pv 7) qn))))))))
      (ze (zY (pv 5)))))))))
  · walk_at "ref"
  rintro _ O R ⟨c, a, b, rfl, hb, ha, hbb, h⟩
  refine ZE (fun ρ' O' => ρ' = [some (.d (.int c)), some (.d (.int a)), some (.d (.int b)), some (.d (.str (zsA ++ zsB))), some (.d (.int (xT c 51 / 8))), none, none, none, none, none, none] ∧ O = O') (fun R1 hR1 => ?_) ?_
  · walk_at "wd"
    simp [xy, hb]
    exact ⟨zbF, hR1 _ _ ⟨rfl, rfl⟩⟩
  rintro _ _ ⟨rfl, rfl⟩
  walk_at "wd"
  intro p hp
  refine ⟨by omega, ?_⟩
  refine xA.rng (f := fun i => (i : Int)) (fun i ρ O' => ∃ v6 v7 v8 v9 v10, ρ = [some (.d (.int c)), some (.d (.int a)), some (.d (.int b)), some (.d (.str (zsA ++ zsB))), some (.d (.int (xT c 51 / 8))), some (.own p), v6, v7, v8, v9, v10] ∧ O' = updO O p (.grid (genG i a (xU c)))) ⟨_, _, _, _, _, rfl, rfl⟩ ?_ ?_
  · rintro i _ _ hi ⟨v6, v7, v8, v9, v10, rfl, rfl⟩ R1 hR1
    refine yt (fun ρ' O' => ∃ l, updO O p (.grid (genG i a (xU c))) l = none ∧ ρ' = [some (.d (.int c)), some (.d (.int a)), some (.d (.int b)), some (.d (.str (zsA ++ zsB))), some (.d (.int (xT c 51 / 8))), some (.own p), some (.d (.int i)), some (.own l), v8, v9, v10] ∧ O' = updO (updO O p (.grid (genG i a (xU c)))) l (.lst [])) (fun R2 hR2 => ?_) ?_
    · walk_at "wd"
      exact fun l hl => hR2 _ _ ⟨l, hl, rfl, rfl⟩
    rintro _ _ ⟨l, hl, rfl, rfl⟩
    refine yt (fun ρ' O' => ∃ v8 v9 v10, ρ' = [some (.d (.int c)), some (.d (.int a)), some (.d (.int b)), some (.d (.str (zsA ++ zsB))), some (.d (.int (xT c 51 / 8))), some (.own p), some (.d (.int i)), some (.own l), v8, v9, v10] ∧ O' = updO (updO O p (.grid (genG i a (xU c)))) l (.lst (((List.range a).map fun j => yE (xU c i j)).map .d))) (fun R2 hR2 => ?_) ?_
    · walk_at "wd"
      refine ⟨by omega, ?_⟩
      refine xA.rng (f := fun i => (i : Int)) (fun j ρ O' => ∃ v8 v9 v10, ρ = [some (.d (.int c)), some (.d (.int a)), some (.d (.int b)), some (.d (.str (zsA ++ zsB))), some (.d (.int (xT c 51 / 8))), some (.own p), some (.d (.int i)), some (.own l), v8, v9, v10] ∧ O' = updO (updO O p (.grid (genG i a (xU c)))) l (.lst (((List.range j).map fun j => yE (xU c i j)).map .d))) ⟨_, _, _, rfl, rfl⟩ ?_ ?_
      · rintro j _ O2 hj ⟨v8, v9, v10, rfl, hO2⟩ R3 hR3
        have hm : 0 ≤ (xT c 51 / 8 + 7 * (24 * (i : Int) + j)) % 89 ∧ (xT c 51 / 8 + 7 * (24 * (i : Int) + j)) % 89 < 89 := by omega
        obtain ⟨L, hL⟩ : ∃ L, L = ((List.range j).map fun j => yE (xU c i j)).map W.d := ⟨_, rfl⟩
        rw [← hL] at hO2
        have e1 : O2 l = some (.lst L) := by rw [hO2, zn]
        have e2 : ∀ w, ql O2 (.own l) w = some (updO O2 l (.lst (L ++ [w]))) := fun w => by
          simp only [ql, e1]
          rw [if_pos (by rw [hL]; simp; omega)]
        have nx : ∀ v w, w = yE (xU c i j) → R3 v (updO O2 l (.lst (L ++ [.d w]))) ∨ ∀ v8 v9 v10, v ≠ [some (.d (.int c)), some (.d (.int a)), some (.d (.int b)), some (.d (.str (zsA ++ zsB))), some (.d (.int (xT c 51 / 8))), some (.own p), some (.d (.int i)), some (.own l), v8, v9, v10] := by
          rintro v _ rfl
          by_cases hv : ∃ v8 v9 v10, v = [some (.d (.int c)), some (.d (.int a)), some (.d (.int b)), some (.d (.str (zsA ++ zsB))), some (.d (.int (xT c 51 / 8))), some (.own p), some (.d (.int i)), some (.own l), v8, v9, v10]
          · obtain ⟨v8, v9, v10, rfl⟩ := hv
            refine .inl (hR3 _ _ ⟨_, _, _, rfl, ?_⟩)
            rw [hO2, vA, hL, List.range_succ, List.map_append, List.map_append]
            rfl
          · exact .inr fun v8 v9 v10 e => hv ⟨v8, v9, v10, e⟩
        walk_at "wd"
        simp only [zdl]
        simp [xy, hb, zd0 hm.1 hm.2, yP, e2]
        refine ⟨mulL (by omega) (by omega), mulL (by omega) (by omega), by rw [sizeLine_eq]; decide, .inl ⟨rfl, by simp [yS, e1]⟩, by omega, by omega, ?_⟩
        rcases nx _ _ (show _ = yE (xU c i j) by simp [yE, xU]; rfl) with q | q
        · exact q
        · exact absurd rfl (q _ _ _)
      · rintro ρ O1 ⟨v8, v9, v10, rfl, rfl⟩
        exact hR2 _ _ ⟨_, _, _, rfl, rfl⟩
    rintro _ O2 ⟨v8, v9, v10, rfl, hO2⟩
    have hlp : p ≠ l := fun e => by rw [← e, zn] at hl; cases hl
    have eP : O2 p = some (.grid (genG i a (xU c))) := by rw [hO2, zi hlp, zn]
    have eA : ql O2 (.own p) (.own l) = some (updO O p (.grid (genG (i + 1) a (xU c)))) := by
      have eL : O2 l = some (.lst (((List.range a).map fun j => yE (xU c i j)).map .d)) := by rw [hO2, zn]
      simp only [ql, eP, eL, vJ, Option.map_some, xl]
      rw [if_pos (by omega), hO2, Jm hp hl, Yx]
    walk_at "wd"
    simp [eA]
    exact ⟨.inl ⟨rfl, by rw [y9 eP]; rfl⟩, hR1 _ _ ⟨_, _, _, _, _, rfl, rfl⟩⟩
  · rintro ρ O1 ⟨v6, v7, v8, v9, v10, rfl, rfl⟩
    walk_at "wd"
    exact .inl (h _ _ (KG c) hp)
theorem VL (F : Fun K "_law_dyes" "_law_dyes" qz f fd) (T : Txt K mg C) : FnOk P w K mg base CX0 1 f fd ["_law_ink"] (zb K Y2) := by
  have nd := jX.nd
  apply F.okV jX (by rintro _ _ _ ⟨i, rfl, _⟩; rfl) (fun cdv A outer sh H E hr => (za (JQ (i := 1) nd rfl rfl (qV (N := ["_law_k", "_law_ink"]) (n := 1) (js := [0])) rfl (Z7 (K := K) rfl (yD (qc zc (qc zc (qc zc qn))))) (fun _ _ _ _ => (yO (i := 0) (show List.Nodup (["_law_k", "_law_ink"] : List Str) by decide +kernel) rfl (Or.inl rfl))) (fun _ _ _ _ => (Z4 (zW yX (zg yH (zg yF (pv 1) (yM (yY (K := K) rfl) (xr (qc zc (qc zc (qc zc (qc zc qn))))) (pv 0) (fun _ _ => rfl))) zc) zc (zJ _)))) (fun _ _ _ _ => (pv 0)))
      (ze (zY (zg (Ub (K := K) rfl) (zg (Ub (K := K) rfl) (yD (qc zc qn)) (vy (zc5 (K := K) rfl) (by rfl) T.n_tuple rfl (QA.pa (qc (pv 1) qn)))) (yD (qc (zg yC zc (zg yH (pv 0) zc)) (qc (zg yC zc (zg yH (zg yF (pv 0) zc) zc)) qn))))))))
  · walk_at "ref"
  rintro _ O R ⟨i, rfl, hi, h⟩
  have := hi.1
  have := hi.2
  walk_at "wd"
  refine ⟨vW i, ?_, ?_, ?_, ?_⟩
  · intro us hus
    match us, hus with
    | [u], _ => simp [yS, atI, ixN, xy, vW, Y1]
  · intro us hus
    match us, hus with
    | [u], _ => simp [yS, atI, ixN, xy, vW, Y1]
  · intro us hus
    match us, hus with
    | [u], _ => simp [yS, atI, ixN, xy, vW, Y1]
  have hlen : (List.filterMap (vW i ∘ W.d) [PyData.int 1, PyData.int 2, PyData.int 3]).length ≤ 3 := List.length_filterMap_le _ _
  refine ⟨List.filterMap (vW i ∘ W.d) [PyData.int 1, PyData.int 2, PyData.int 3], by simp only [qi, xz, yS, Option.bind_some, vJ], by omega, ⟨by decide, by decide⟩, by omega, .inl ?_⟩
  have e : List.filterMap (vW i ∘ W.d) [PyData.int 1, PyData.int 2, PyData.int 3] = List.filterMap (vW i) [.d (.int 1), .d (.int 2), .d (.int 3)] := by rw [← List.filterMap_map]; rfl
  rw [e]
  exact h
theorem Vl (F : Fun K "_law_place" "_law_place" uX f fd) (T : Txt K mg C) : FnOk P w K mg base CX0 1 f fd ["_law_own", "_law_number"] (zb K kn) := by
  have nd := jr.nd
  apply F.okV jr (by rintro _ _ _ ⟨d, q, S, n, rfl, _⟩; rfl) (fun cdv A outer sh H E hr => (za (zZ (i := 2) nd rfl (Or.inl rfl) (zg yH (pv 1) (zf (zk hr) (pv 0) zd (fun _ _ => rfl))))
      (za (zZ (i := 3) nd rfl (Or.inl rfl) (zg yH (zg yF (pv 1) zc) (zf (zk hr) (pv 0) zd (fun _ _ => rfl))))
      (za (zZ (i := 4) nd rfl (Or.inl rfl) (xr (qc (pv 2) (qc (pv 2) (qc (zf (zk hr) (pv 0) zd (fun _ _ => rfl)) (qc (zf (zk hr) (pv 0) zd (fun _ _ => rfl)) qn))))))
      (za (zZ (i := 5) nd rfl (Or.inl rfl) (xr (qc (pv 3) (qc (pv 3) (qc (zf (zk hr) (pv 0) zd (fun _ _ => rfl)) (qc (zf (zk hr) (pv 0) zd (fun _ _ => rfl)) (qc (zg y6 (zf (zk hr) (pv 0) zd (fun _ _ => rfl)) zc) qn)))))))
      (za (yI (zk hr) (pv 0) zd (yM (yY (K := K) rfl) (pv 4) (zg yH (zg yF (pv 1) zc) zc) (fun _ _ => rfl)) rfl)
      (za (yI (zk hr) (pv 0) zd (yM (yY (K := K) rfl) (pv 5) (zg yH (zg yF (pv 1) zc) zc) (fun _ _ => rfl)) rfl)
      (ze (yA (xj (zf (zk hr) (pv 0) zd (fun _ _ => rfl))) (za (yI (zk hr) (pv 0) zd (y7 (jx rfl) (by rfl) T.n_max (by rfl) (QA.pa (qc (zf (zk hr) (pv 0) zd (fun _ _ => rfl)) (qc (y7 (x4 rfl) (by rfl) T.n_min (by rfl) (QA.pa (qc (zf (zk hr) (pv 0) zd (fun _ _ => rfl)) (qc (zf (zk hr) (pv 0) zd (fun _ _ => rfl)) qn)))) qn)))) rfl)
      (ze (yI (zk hr) (pv 0) zd (y7 (jx rfl) (by rfl) T.n_max (by rfl) (QA.pa (qc (zf (zk hr) (pv 0) zd (fun _ _ => rfl)) (qc (y7 (x4 rfl) (by rfl) T.n_min (by rfl) (QA.pa (qc (zf (zk hr) (pv 0) zd (fun _ _ => rfl)) (qc (zf (zk hr) (pv 0) zd (fun _ _ => rfl)) qn)))) qn)))) rfl))) z0)))))))))
  · walk_at "ref"
  rintro _ O R ⟨d, q, S, n, rfl, hn, hd, h1, h2, h⟩
  obtain ⟨kvs, hd, hk⟩ : ∃ kvs, O d = some (.dK kvs) ∧ (kvs = ownW q S ∨ kvs = ownW0 q S) := by rcases hd with hd | hd; exact ⟨_, hd, .inl rfl⟩; exact ⟨_, hd, .inr rfl⟩
  obtain ⟨v1, v2, v3, v4, v5, v6, v7, l1, l2, pp⟩ := zew hk
  have hr : ∃ r : Int, atI [W.d (.int (n % S.h)), W.d (.int (n % S.h)), W.d (.int S.bottom), W.d (.int S.top)] (n / 12 % 4) = some (.d (.int r)) ∧ (Bds { S with row := 0, col := 0 } → 0 ≤ r ∧ r < S.h) := by
    have e1 : 0 ≤ n % (S.h : Int) := Int.emod_nonneg _ (by omega)
    have e2 : n % (S.h : Int) < S.h := Int.emod_lt_of_pos _ (by omega)
    have hw : n / 12 % 4 = 0 ∨ n / 12 % 4 = 1 ∨ n / 12 % 4 = 2 ∨ n / 12 % 4 = 3 := by omega
    rcases hw with e | e | e | e <;> rw [e]
    · exact ⟨_, rfl, fun _ => ⟨e1, e2⟩⟩
    · exact ⟨_, rfl, fun _ => ⟨e1, e2⟩⟩
    · exact ⟨_, rfl, fun b => ⟨Int.le_trans b.t0 b.tb, b.b1⟩⟩
    · exact ⟨_, rfl, fun b => ⟨b.t0, Int.lt_of_le_of_lt b.tb b.b1⟩⟩
  have hc : ∃ r : Int, atI [W.d (.int (n / 48 % S.w)), W.d (.int (n / 48 % S.w)), W.d (.int S.right), W.d (.int S.left), W.d (.int (S.w - 1))] (n / 1152 % 5) = some (.d (.int r)) ∧ (Bds { S with row := 0, col := 0 } → 0 ≤ r ∧ r < S.w) := by
    have e1 : 0 ≤ n / 48 % (S.w : Int) := Int.emod_nonneg _ (by omega)
    have e2 : n / 48 % (S.w : Int) < S.w := Int.emod_lt_of_pos _ (by omega)
    have hw : n / 1152 % 5 = 0 ∨ n / 1152 % 5 = 1 ∨ n / 1152 % 5 = 2 ∨ n / 1152 % 5 = 3 ∨ n / 1152 % 5 = 4 := by omega
    rcases hw with e | e | e | e | e <;> rw [e]
    · exact ⟨_, rfl, fun _ => ⟨e1, e2⟩⟩
    · exact ⟨_, rfl, fun _ => ⟨e1, e2⟩⟩
    · exact ⟨_, rfl, fun b => ⟨Int.le_trans b.l0 b.lr, b.rr⟩⟩
    · exact ⟨_, rfl, fun b => ⟨b.l0, Int.lt_of_le_of_lt b.lr b.rr⟩⟩
    · exact ⟨_, rfl, fun b => ⟨by omega, by omega⟩⟩
  obtain ⟨r, hr, hrb⟩ := hr
  obtain ⟨c, hc, hcb⟩ := hc
  walk_at "wd"
  simp [hd, v1, v2, v3, v4, v5, v6, v7, l1, l2, pp, hr, hc, xy, yS, yP, zn, vA, xm, and_assoc, zh, zK, zL, yl, zM, zC, zq, zD, zN, zo, zO, zP, zQ, ym, yn, zr, yo, zt, zR, yp, zS, zp, zT, yq, zu, zU, zE, zV, zF]
  refine ⟨by omega, by omega, ?_⟩
  cases hh : S.home with
  | false =>
    simp [hh]
    exact .inl (h _ ⟨r, c, by simp [hh]⟩ fun b => ⟨{ b with r0 := (hrb b).1, r1 := (hrb b).2, c0 := (hcb b).1, c1 := (hcb b).2 }, fun e => by simp at e⟩)
  | true =>
    simp [hh]
    refine .inl (h _ ⟨_, _, by rw [hh]⟩ fun b => ?_)
    have t0 := b.t0
    have tb := b.tb
    have b1 := b.b1
    have l0 := b.l0
    have lr := b.lr
    have rr := b.rr
    simp only at t0 tb b1 l0 lr rr
    have hR : S.top ≤ (if S.top < if r < S.bottom then r else S.bottom then if r < S.bottom then r else S.bottom else S.top) ∧ (if S.top < if r < S.bottom then r else S.bottom then if r < S.bottom then r else S.bottom else S.top) ≤ S.bottom := by
      repeat' split
      all_goals omega
    have hC : S.left ≤ (if S.left < if c < S.right then c else S.right then if c < S.right then c else S.right else S.left) ∧ (if S.left < if c < S.right then c else S.right then if c < S.right then c else S.right else S.left) ≤ S.right := by
      repeat' split
      all_goals omega
    exact ⟨{ b with r0 := by simp only; omega, r1 := by simp only; omega, c0 := by simp only; omega, c1 := by simp only; omega }, fun _ => ⟨hR.1, hR.2, hC.1, hC.2⟩⟩
end
section
variable {P : Program} {w : World} {K : PySem.W.Frag} {mg : Str → Option Value} {base : Heap} {f C : Addr} {fd : FuncData}
theorem ZV (F : Fun K "_law_go_there" "_law_go_there" vE f fd) (T : Txt K mg C) (zgB : Cal P w K mg base 3 "to_place" [] (zb K (Zz C))) : FnOk P w K mg base CX0 4 f fd ["_law_state_here", "_law_own"] (zb K (sGo C)) := by
  have nd := uY.nd
  apply F.okV uY (by rintro _ _ _ ⟨x, dx, p, st, kp, d, q, S, S', rfl, _⟩; rfl) (fun cdv A outer sh H E hr => (za (Y6 (i := 2) (j := 3) rfl nd rfl rfl (by decide) rfl rfl (QA.pa (qc (zg yC (zf (zk hr) (pv 1) zd (fun _ _ => rfl)) zc) (qc (zg yC (zf (zk hr) (pv 1) zd (fun _ _ => rfl)) zc) qn))) rfl)
      (za (yA (xj (zf (zk hr) (pv 1) zd (fun _ _ => rfl))) (ze (Y6 (i := 2) (j := 3) rfl nd rfl rfl (by decide) rfl rfl (QA.pa (qc (zg y6 (pv 2) (zf (zk hr) (pv 1) zd (fun _ _ => rfl))) (qc (zg y6 (pv 3) (zf (zk hr) (pv 1) zd (fun _ _ => rfl))) qn))) rfl)) z0)
      (ze (yr (zj zgB (hr.mono (by decide)) rfl (QA.pa (qc (pv 0) (qc (pv 2) (qc (pv 3) qn))))))))))
  · walk_at "ref"
  rintro _ O R ⟨x, dx, p, st, kp, d, q, S, S', rfl, hb, hB, hW, ew, eh, ehm, et, eb, el, er, h⟩
  have hd := hb.o.d
  have := hB.r0
  have := hB.r1
  have := hB.h2
  have := hB.c0
  have := hB.c1
  have := hB.w2
  have := hB.t0
  have := hB.l0
  walk_at "wd"
  simp [hd, and_assoc, zh, zK, zL, yl, zM, zC, zq, zD, zN, zo, zO, zP, zQ, ym, yn, zr, yo, zt, zR, yp, zS, zp, zT, yq, zu, zU, zE, zV, zF]
  cases hh : S'.home with
  | true =>
    obtain ⟨w1, w2, w3, w4⟩ := hW hh
    simp
    refine ⟨_, _, ?_, ?_, x, dx, p, st, kp, S, rfl, hb.s, trivial, fun O' h1 h2 => .inl (h O' (hb.st' ?_ h2) h2)⟩
    · exact ⟨by omega, by omega⟩
    · exact ⟨by omega, by omega⟩
    · rw [plS, if_pos (by rw [ehm]; exact hh)] at h1
      have e1 : x0 (.int (S'.row + 1 - S'.top)) S.top S.bottom = S'.row := by simp only [x0, yJ, et, eb]; split <;> split at * <;> omega
      have e2 : x0 (.int (S'.col + 1 - S'.left)) S.left S.right = S'.col := by simp only [x0, yJ, el, er]; split <;> split at * <;> omega
      rw [e1, e2] at h1
      exact h1
  | false =>
    simp
    refine ⟨_, _, ?_, ?_, x, dx, p, st, kp, S, rfl, hb.s, trivial, fun O' h1 h2 => .inl (h O' (hb.st' ?_ h2) h2)⟩
    · exact ⟨by omega, by omega⟩
    · exact ⟨by omega, by omega⟩
    · rw [plS, if_neg (by rw [ehm, hh]; decide)] at h1
      have e1 : x0 (.int (S'.row + 1)) 0 (S.h - 1) = S'.row := by simp only [x0, yJ, eh]; split <;> split at * <;> omega
      have e2 : x0 (.int (S'.col + 1)) 0 (S.w - 1) = S'.col := by simp only [x0, yJ, ew]; split <;> split at * <;> omega
      rw [e1, e2] at h1
      exact h1
end
section
variable {P : Program} {w : World} {K : PySem.W.Frag} {mg : Str → Option Value} {base : Heap} {f C : Addr} {fd : FuncData}
theorem YL (F : Fun K "_law_own_by" "_law_own_by" uj f fd) (T : Txt K mg C) (zfE : Cal P w K mg base 1 "_law_cell_at" [] (zb K km)) (zfR : Cal P w K mg base 1 "_law_mixed" [] (zb K uN)) (zfZ : Cal P w K mg base 2 "_law_sizes" [] (zb K XC))
    (zfI : Cal P w K mg base 2 "_law_drawn_cells" [] (zb K XD)) (zfU : Cal P w K mg base 1 "_law_place" [] (zb K kn)) (zfX : Cal P w K mg base 1 "_law_right_edge" [] (zb K qL)) : FnOk P w K mg base CX0 3 f fd ["_law_script"] (zb K XG) := by
  have nd := qO.nd
  apply F.okV qO (by rintro _ _ _ ⟨ns, rfl, _⟩; rfl) (fun cdv A outer sh H E hr => (za (x3 (zj zfZ (hr.mono (by decide)) rfl (QA.pa (qc (zj zfE (hr.mono (by decide)) rfl (QA.pa (qc (pv 0) (qc zc qn)))) qn))) (zbv (K := K) (n := 2) rfl rfl (Y5 (yO (i := 1) nd rfl (Or.inl rfl)) (Y5 (yO (i := 2) nd rfl (Or.inl rfl)) zaK))))
      (za (zZ (i := 3) nd rfl (Or.inl rfl) (zg yF (zj zfR (hr.mono (by decide)) rfl (QA.pa (qc (zj zfE (hr.mono (by decide)) rfl (QA.pa (qc (pv 0) (qc zc qn)))) (qc zc qn)))) zc))
      (za (zZ (i := 4) nd rfl (Or.inl rfl) (zg yF (zj zfR (hr.mono (by decide)) rfl (QA.pa (qc (zj zfE (hr.mono (by decide)) rfl (QA.pa (qc (pv 0) (qc zc qn)))) (qc zc qn)))) zc))
      (za (zZ (i := 5) nd rfl (Or.inl rfl) (zg yF (zj zfR (hr.mono (by decide)) rfl (QA.pa (qc (zj zfE (hr.mono (by decide)) rfl (QA.pa (qc (pv 0) (qc zc qn)))) (qc zc qn)))) zc))
      (za (zZ (i := 6) nd rfl (Or.inl rfl) (uw (yR zd (pv 1) (yR zd (pv 2) (yR zd zc (yR zd zc uv)))) rfl rfl (by decide) (by decide)))
      (za (yI (zk hr) (pv 6) zd (zj zfI (hr.mono (by decide)) rfl (QA.pa (qc (zj zfE (hr.mono (by decide)) rfl (QA.pa (qc (pv 0) (qc zc qn)))) (qc (pv 1) (qc (pv 2) qn))))) rfl)
      (za (yA (zW Zb (zg yH (pv 5) zc) zc (zJ _)) (ze (yr (uc (K := K) rfl PySem.F.plainAttrs_dict PySem.F.slot_dict_update PySem.F.type_dict_update jD (pv 6) (QA.pa (qc (uw (yR zd (zg yH (pv 4) (pv 2)) (yR zd (zg yH (zg yF (pv 4) zc) (pv 1)) uv)) rfl rfl (by decide) (by decide)) qn))))) z0)
      (za (yr (uc (K := K) rfl PySem.F.plainAttrs_dict PySem.F.slot_dict_update PySem.F.type_dict_update jD (pv 6) (QA.pa (qc (uw (yR zd (zg y6 (pv 2) zc) (yR zd (zg y6 (pv 1) zc) uv)) rfl rfl (by decide) (by decide)) qn))))
      (za (yA (zW Zb (zg yH (pv 5) zc) zc (zJ _)) (za (yI (zk hr) (pv 6) zd (zg yC (zf (zk hr) (pv 6) zd (fun _ _ => rfl)) (zg yH (zg yF (pv 4) zc) (zg y6 (pv 2) (zf (zk hr) (pv 6) zd (fun _ _ => rfl))))) rfl)
      (ze (yI (zk hr) (pv 6) zd (zg yC (zf (zk hr) (pv 6) zd (fun _ _ => rfl)) (zg yH (zg yF (pv 4) zc) (zg y6 (pv 1) (zf (zk hr) (pv 6) zd (fun _ _ => rfl))))) rfl))) z0)
      (za (yI (zk hr) (pv 6) zd (xi yX (zg yH (zg yF (pv 5) zc) zc) zc (zJ _)) rfl)
      (za (yI (zk hr) (pv 6) zd (xi yX (zg yH (zg yF (pv 5) zc) zc) zc (zJ _)) rfl)
      (za (yI (zk hr) (pv 6) zd (xi Zb (zg yH (zg yF (pv 5) zc) zc) zc (zJ _)) rfl)
      (za (yI (zk hr) (pv 6) zd (yM (yY (K := K) rfl) (xr (qc yZ (qc zd (qc zd (qc zd qn))))) (zg yH (zg yF (pv 5) zc) zc) (fun _ _ => rfl)) rfl)
      (za (yI (zk hr) (pv 6) zd (xi yX (zg yH (zg yF (pv 5) zc) zc) zc (zJ _)) rfl)
      (za (yI (zk hr) (pv 6) zd (zg yH (pv 3) zc) rfl)
      (za (yr (zj zfU (hr.mono (by decide)) rfl (QA.pa (qc (pv 6) (qc (zg yF (pv 3) zc) qn)))))
      (za (yA (xj (zf (zk hr) (pv 6) zd (fun _ _ => rfl))) (za (yI (zk hr) (pv 6) zd (zj zfX (hr.mono (by decide)) rfl (QA.pa (qc (pv 6) qn))) rfl)
      (ze (yI (zk hr) (pv 6) zd zd rfl))) z0)
      (za (yA (zW ka (zf (zk hr) (pv 6) zd (fun _ _ => rfl)) yZ (zJ _)) (ze (x3 (yD (qc (zf (zk hr) (pv 6) zd (fun _ _ => rfl)) (qc (zf (zk hr) (pv 6) zd (fun _ _ => rfl)) qn))) (vm (yM (yY (K := K) rfl) (zf (zk hr) (pv 6) zd (fun _ _ => rfl)) (zf (zk hr) (pv 6) zd (fun _ _ => rfl)) (fun _ _ => rfl)) (zf (zk hr) (pv 6) zd (fun _ _ => rfl)) xF))) z0)
      (ze (zY (pv 6))))))))))))))))))))))
  · walk_at "ref"
  rintro _ O R ⟨ns, rfl, hns, h⟩
  have hc : ∀ k : Nat, Bt 1048600 (ns[k]?.getD 0) := fun k => by
    cases e : ns[k]? with
    | none => exact (Bt.small (a := 0) (by decide) (by decide)).mono (by decide)
    | some n => exact (hns n (List.mem_of_getElem? e)).mono (by decide)
  refine yt (fun ρ' O' => ∃ a b : Nat, 1 ≤ a ∧ a ≤ 24 ∧ 1 ≤ b ∧ b ≤ 12 ∧ ρ' = [some (.d (.list (ns.map .int))), some (.d (.int a)), some (.d (.int b)), none, none, none, none] ∧ O = O') (fun R1 hR1 => ?_) ?_
  · walk_at "wd"
    refine ⟨ns, rfl, 0, rfl, ?_⟩
    exact ⟨_, rfl, hc 0, fun a b a1 a2 b1 b2 => by simp [and_assoc]; exact hR1 _ _ ⟨a, b, a1, a2, b1, b2, rfl, rfl⟩⟩
  rintro _ _ ⟨a, b, a1, a2, b1, b2, rfl, rfl⟩
  refine ZE (fun ρ' O' => ∃ pl eg md : Int, 0 ≤ pl ∧ 0 ≤ eg ∧ 0 ≤ md ∧ ρ' = [some (.d (.list (ns.map .int))), some (.d (.int a)), some (.d (.int b)), some (.d (.int pl)), some (.d (.int eg)), some (.d (.int md)), none] ∧ O = O') (fun R1 hR1 => ?_) ?_
  · walk_at "wd"
    have m2 := vL (ns[1]?.getD 0) 2
    have m3 := vL (ns[2]?.getD 0) 3
    have m4 := vL (ns[3]?.getD 0) 4
    exact ⟨ns, rfl, 1, rfl, hc 1, ⟨by decide, by decide⟩, ns, rfl, 2, rfl, hc 2, ⟨by decide, by decide⟩, ns, rfl, 3, rfl, hc 3, ⟨by decide, by decide⟩, hR1 _ _ ⟨_, _, _, by omega, by omega, by omega, rfl, rfl⟩⟩
  rintro _ _ ⟨pl, eg, md, pl0, eg0, md0, rfl, rfl⟩
  refine yt (fun ρ' O' => ∃ d, O d = none ∧ ρ' = [some (.d (.list (ns.map .int))), some (.d (.int a)), some (.d (.int b)), some (.d (.int pl)), some (.d (.int eg)), some (.d (.int md)), some (.own d)] ∧ Old O O' ∧ O' d = some (.dK [(Sum.inr "wide", .d (.int a)), (Sum.inr "high", .d (.int b)), (Sum.inr "top", .d (.int 0)), (Sum.inr "left", .d (.int 0))])) (fun R1 hR1 => ?_) ?_
  · walk_at "wd"
    exact fun d hd => ⟨_, rfl, by show (4 : Nat) ≤ 15; decide, hR1 _ _ ⟨d, hd, rfl, Old.refl.upd hd, by rw [zn]; rfl⟩⟩
  rintro _ O1 ⟨d, hd0, rfl, ho1, hd1⟩
  refine yt (fun ρ' O' => ∃ q f, O q = none ∧ d ≠ q ∧ (∀ i j, okC (f i j)) ∧ ρ' = [some (.d (.list (ns.map .int))), some (.d (.int a)), some (.d (.int b)), some (.d (.int pl)), some (.d (.int eg)), some (.d (.int md)), some (.own d)] ∧ Old O O' ∧ O' q = some (.grid (genG b a f)) ∧ O' d = some (.dK ((ownW q ⟨a, b, 0, 0, false, 0, false, false, false, 0, 0, 0, 0, .none, f⟩).take 5))) (fun R1 hR1 => ?_) ?_
  · walk_at "wd"
    refine ⟨ns, rfl, 0, rfl, _, a, b, rfl, hc 0, a2, b2, fun f q hf hq => ?_⟩
    have hdq : d ≠ q := neO hd1 hq
    simp [zi hdq, hd1]
    exact hR1 _ _ ⟨q, f, ho1.new hq, hdq, hf, rfl, (ho1.upd (ho1.new hq)).upd hd0, by rw [zi (Ne.symm hdq), zn], by rw [zn]; rfl⟩
  rintro _ O2 ⟨q, f, hq0, hdq, hf, rfl, ho2, hq2, hd2⟩
  refine yt (fun ρ' O' => ∃ t l : Int, 0 ≤ t ∧ t < b ∧ 0 ≤ l ∧ l < a ∧ ρ' = [some (.d (.list (ns.map .int))), some (.d (.int a)), some (.d (.int b)), some (.d (.int pl)), some (.d (.int eg)), some (.d (.int md)), some (.own d)] ∧ Old O O' ∧ O' q = some (.grid (genG b a f)) ∧ O' d = some (.dK ((ownW q ⟨a, b, 0, 0, false, 0, false, false, false, t, 0, l, 0, .none, f⟩).take 5))) (fun R1 hR1 => ?_) ?_
  · have e1 : 0 ≤ eg % (b : Int) := Int.emod_nonneg _ (by omega)
    have e2 : eg % (b : Int) < b := Int.emod_lt_of_pos _ (by omega)
    have e3 : 0 ≤ eg / 12 % (a : Int) := Int.emod_nonneg _ (by omega)
    have e4 : eg / 12 % (a : Int) < a := Int.emod_lt_of_pos _ (by omega)
    walk_at "wd"
    split
    · refine ⟨.inr (.inr ⟨rfl, d, _, rfl, hd2⟩), fun p hp => ?_⟩
      have hpd : d ≠ p := neO hd2 hp
      refine ⟨by omega, ⟨by decide, by decide⟩, by omega, _, rfl, by show (2 : Nat) ≤ 15; decide, ?_⟩
      simp [zi hpd, zn, hd2, hpd]
      have hqp : q ≠ p := neO hq2 hp
      exact ⟨by show (7 : Nat) ≤ 1000; decide, hR1 _ _ ⟨_, _, e1, e2, e3, e4, rfl, (ho2.upd (ho2.new hp)).upd hd0, by rw [zi (Ne.symm hdq), zi hqp]; exact hq2, by rw [zn]; rfl⟩⟩
    · exact hR1 _ _ ⟨0, 0, by omega, by omega, by omega, by omega, rfl, ho2, hq2, hd2⟩
  rintro _ O3 ⟨t, l, t0, t1, l0, l1, rfl, ho3, hq3, hd3⟩
  refine yt (fun ρ' O' => ρ' = [some (.d (.list (ns.map .int))), some (.d (.int a)), some (.d (.int b)), some (.d (.int pl)), some (.d (.int eg)), some (.d (.int md)), some (.own d)] ∧ Old O O' ∧ O' q = some (.grid (genG b a f)) ∧ O' d = some (.dK ((ownW q ⟨a, b, 0, 0, false, 0, false, false, false, t, b - 1, l, a - 1, .none, f⟩).take 7))) (fun R1 hR1 => ?_) ?_
  · walk_at "wd"
    refine ⟨.inr (.inr ⟨rfl, d, _, rfl, hd3⟩), fun p hp => ?_⟩
    have hpd : d ≠ p := neO hd3 hp
    have hqp : q ≠ p := neO hq3 hp
    refine ⟨_, rfl, by show (2 : Nat) ≤ 15; decide, ?_⟩
    simp [zi hpd, zn, hd3, hpd]
    exact ⟨by show (7 : Nat) ≤ 1000; decide, hR1 _ _ ⟨rfl, (ho3.upd (ho3.new hp)).upd hd0, by rw [zi (Ne.symm hdq), zi hqp]; exact hq3, by rw [zn]; rfl⟩⟩
  rintro _ O4 ⟨rfl, ho4, hq4, hd4⟩
  refine yt (fun ρ' O' => ∃ bo ri : Int, t ≤ bo ∧ bo < b ∧ l ≤ ri ∧ ri < a ∧ ρ' = [some (.d (.list (ns.map .int))), some (.d (.int a)), some (.d (.int b)), some (.d (.int pl)), some (.d (.int eg)), some (.d (.int md)), some (.own d)] ∧ Old O O' ∧ O' q = some (.grid (genG b a f)) ∧ O' d = some (.dK ((ownW q ⟨a, b, 0, 0, false, 0, false, false, false, t, bo, l, ri, .none, f⟩).take 7))) (fun R1 hR1 => ?_) ?_
  · have e1 : 0 ≤ eg / 288 % ((b : Int) - t) := Int.emod_nonneg _ (by omega)
    have e2 : eg / 288 % ((b : Int) - t) < b - t := Int.emod_lt_of_pos _ (by omega)
    have e3 : 0 ≤ eg / 3456 % ((a : Int) - l) := Int.emod_nonneg _ (by omega)
    have e4 : eg / 3456 % ((a : Int) - l) < a - l := Int.emod_lt_of_pos _ (by omega)
    walk_at "wd"
    split
    · simp [hd4, zbG, KI, Jo, KH, jL, xy, zn, vA, -List.length_take]
      exact ⟨t1, l1, hR1 _ _ ⟨_, _, by omega, by omega, by omega, by omega, rfl, ho4.upd hd0, by rw [zi (Ne.symm hdq)]; exact hq4, zn⟩⟩
    · exact hR1 _ _ ⟨_, _, by omega, by omega, by omega, by omega, rfl, ho4, hq4, hd4⟩
  rintro _ O5 ⟨bo, ri, bo0, bo1, ri0, ri1, rfl, ho5, hq5, hd5⟩
  refine yt (fun ρ' O' => ∃ hm : Bool, ρ' = [some (.d (.list (ns.map .int))), some (.d (.int a)), some (.d (.int b)), some (.d (.int pl)), some (.d (.int eg)), some (.d (.int md)), some (.own d)] ∧ Old O O' ∧ O' q = some (.grid (genG b a f)) ∧ O' d = some (.dK ((ownW q ⟨a, b, 0, 0, false, 0, false, false, hm, t, bo, l, ri, .none, f⟩).take 8))) (fun R1 hR1 => ?_) ?_
  · walk_at "wd"
    simp [hd5, jL, xy, t8, -List.length_take]
    exact hR1 _ _ ⟨_, rfl, ho5.upd hd0, by rw [zi (Ne.symm hdq)]; exact hq5, zn⟩
  rintro _ O6 ⟨hm, rfl, ho6, hq6, hd6⟩
  refine yt (fun ρ' O' => ∃ pu : Bool, ρ' = [some (.d (.list (ns.map .int))), some (.d (.int a)), some (.d (.int b)), some (.d (.int pl)), some (.d (.int eg)), some (.d (.int md)), some (.own d)] ∧ Old O O' ∧ O' q = some (.grid (genG b a f)) ∧ O' d = some (.dK ((ownW q ⟨a, b, 0, 0, false, 0, false, pu, hm, t, bo, l, ri, .none, f⟩).take 9))) (fun R1 hR1 => ?_) ?_
  · walk_at "wd"
    simp [hd6, jL, xy, t9, -List.length_take]
    exact hR1 _ _ ⟨_, rfl, ho6.upd hd0, by rw [zi (Ne.symm hdq)]; exact hq6, zn⟩
  rintro _ O7 ⟨pu, rfl, ho7, hq7, hd7⟩
  refine yt (fun ρ' O' => ∃ wr : Bool, ρ' = [some (.d (.list (ns.map .int))), some (.d (.int a)), some (.d (.int b)), some (.d (.int pl)), some (.d (.int eg)), some (.d (.int md)), some (.own d)] ∧ Old O O' ∧ O' q = some (.grid (genG b a f)) ∧ O' d = some (.dK ((ownW q ⟨a, b, 0, 0, false, 0, wr, pu, hm, t, bo, l, ri, .none, f⟩).take 10))) (fun R1 hR1 => ?_) ?_
  · walk_at "wd"
    simp [hd7, jL, xy, t10, -List.length_take]
    exact hR1 _ _ ⟨_, rfl, ho7.upd hd0, by rw [zi (Ne.symm hdq)]; exact hq7, zn⟩
  rintro _ O8 ⟨wr, rfl, ho8, hq8, hd8⟩
  refine yt (fun ρ' O' => ∃ la : PyData, (la = .none ∨ ∃ c, la = .str c ∧ PyData.strOk c = true) ∧ ρ' = [some (.d (.list (ns.map .int))), some (.d (.int a)), some (.d (.int b)), some (.d (.int pl)), some (.d (.int eg)), some (.d (.int md)), some (.own d)] ∧ Old O O' ∧ O' q = some (.grid (genG b a f)) ∧ O' d = some (.dK ((ownW q ⟨a, b, 0, 0, false, 0, wr, pu, hm, t, bo, l, ri, la, f⟩).take 11))) (fun R1 hR1 => ?_) ?_
  · have hw : md / 144 % 4 = 0 ∨ md / 144 % 4 = 1 ∨ md / 144 % 4 = 2 ∨ md / 144 % 4 = 3 := by omega
    walk_at "wd"
    simp [hd8, yS, xy, jL, -List.length_take]
    rcases hw with e | e | e | e <;> rw [e] <;> simp [atI, ixN, t11, jL, -List.length_take]
    · exact hR1 _ _ ⟨_, .inl rfl, rfl, ho8.upd hd0, by rw [zi (Ne.symm hdq)]; exact hq8, zn⟩
    · exact hR1 _ _ ⟨_, .inr ⟨Str.ofString "q", rfl, by decide +kernel⟩, rfl, ho8.upd hd0, by rw [zi (Ne.symm hdq)]; exact hq8, zn⟩
    · exact hR1 _ _ ⟨_, .inr ⟨Str.ofString "~", rfl, by decide +kernel⟩, rfl, ho8.upd hd0, by rw [zi (Ne.symm hdq)]; exact hq8, zn⟩
    · exact hR1 _ _ ⟨_, .inr ⟨Str.ofString " ", rfl, by decide +kernel⟩, rfl, ho8.upd hd0, by rw [zi (Ne.symm hdq)]; exact hq8, zn⟩
  rintro _ O9 ⟨la, hla, rfl, ho9, hq9, hd9⟩
  refine yt (fun ρ' O' => ∃ lt : Bool, ρ' = [some (.d (.list (ns.map .int))), some (.d (.int a)), some (.d (.int b)), some (.d (.int pl)), some (.d (.int eg)), some (.d (.int md)), some (.own d)] ∧ Old O O' ∧ O' q = some (.grid (genG b a f)) ∧ O' d = some (.dK ((ownW q ⟨a, b, 0, 0, lt, 0, wr, pu, hm, t, bo, l, ri, la, f⟩).take 12))) (fun R1 hR1 => ?_) ?_
  · walk_at "wd"
    simp [hd9, jL, xy, t12, -List.length_take]
    exact hR1 _ _ ⟨_, rfl, ho9.upd hd0, by rw [zi (Ne.symm hdq)]; exact hq9, zn⟩
  rintro _ O10 ⟨lt, rfl, ho10, hq10, hd10⟩
  refine yt (fun ρ' O' => ∃ ik : Int, Ink ik ∧ ρ' = [some (.d (.list (ns.map .int))), some (.d (.int a)), some (.d (.int b)), some (.d (.int pl)), some (.d (.int eg)), some (.d (.int md)), some (.own d)] ∧ Old O O' ∧ O' q = some (.grid (genG b a f)) ∧ O' d = some (.dK (ownW0 q ⟨a, b, 0, 0, lt, ik, wr, pu, hm, t, bo, l, ri, la, f⟩))) (fun R1 hR1 => ?_) ?_
  · walk_at "wd"
    simp [hd10, jL, xy, t13, -List.length_take]
    exact hR1 _ _ ⟨_, ⟨by omega, by omega⟩, rfl, ho10.upd hd0, by rw [zi (Ne.symm hdq)]; exact hq10, zn⟩
  rintro _ O11 ⟨ik, hik, rfl, ho11, hq11, hd11⟩
  refine yt (fun ρ' O' => ∃ S : ST, ρ' = [some (.d (.list (ns.map .int))), some (.d (.int a)), some (.d (.int b)), some (.d (.int pl)), some (.d (.int eg)), some (.d (.int md)), some (.own d)] ∧ Old O O' ∧ OwnAt O' d q S ∧ Bds S ∧ InWin S ∧ PicOk S ∧ (S.last = .none ∨ ∃ c, S.last = .str c ∧ PyData.strOk c = true)) (fun R1 hR1 => ?_) ?_
  · walk_at "wd"
    simp [xy]
    refine ⟨d, q, ⟨a, b, 0, 0, lt, ik, wr, pu, hm, t, bo, l, ri, la, f⟩, pl / 512, rfl, by omega, .inr hd11, b1, a1, ?_⟩
    rintro _ ⟨r, c, rfl⟩ hB
    have hB := hB ⟨a1, a2, b1, b2, by simp only; omega, by simp only; omega, by simp only; omega, by simp only; omega, t0, bo0, bo1, l0, ri0, ri1, hik.1, hik.2⟩
    exact hR1 _ _ ⟨_, rfl, ho11.upd hd0, ⟨zn, by rw [zi (Ne.symm hdq)]; exact hq11⟩, hB.1, hB.2, fun i j _ _ => hf i j, hla⟩
  rintro _ O12 ⟨S, rfl, ho12, hw12, hB, hW, hP, hL⟩
  refine yt (fun ρ' O' => ∃ S : ST, ρ' = [some (.d (.list (ns.map .int))), some (.d (.int a)), some (.d (.int b)), some (.d (.int pl)), some (.d (.int eg)), some (.d (.int md)), some (.own d)] ∧ Old O O' ∧ OwnAt O' d q S ∧ Bds S ∧ InWin S ∧ PicOk S ∧ (S.last = .none ∨ ∃ c, S.last = .str c ∧ PyData.strOk c = true) ∧ (S.late = true → S.col = eR S ∧ S.last ≠ .none)) (fun R1 hR1 => ?_) ?_
  · have hd12 := hw12.d
    walk_at "wd"
    simp [hd12, and_assoc, zh, zK, zL, yl, zM, zC, zq, zD, zN, zo, zO, zP, zQ, ym, yn, zr, yo, zt, zR, yp, zS, zp, zT, yq, zu, zU, zE, zV, zF]
    cases hl : S.late with
    | false =>
      simp
      exact hR1 _ _ ⟨S, rfl, ho12, hw12, hB, hW, hP, hL, fun e => by rw [hl] at e; cases e⟩
    | true =>
      simp
      refine ⟨d, q, S, rfl, hd12, ?_⟩
      simp [hd12, xm, zn, vA, and_assoc, zh, zK, zL, yl, zM, zC, zq, zD, zN, zo, zO, zP, zQ, ym, yn, zr, yo, zt, zR, yp, zS, zp, zT, yq, zu, zU, zE, zV, zF]
      have eR1 := qe hB
      have c0 := hB.c0
      refine hR1 _ _ ⟨{ S with col := eR S, last := .str (Str.ofString "~") }, rfl, ho12.upd hd0, hw12.fld rfl rfl rfl, { hB with c0 := by simp only; omega, c1 := eR1.2 }, fun e => ?_, hP, .inr ⟨Str.ofString "~", rfl, by decide +kernel⟩, fun _ => ⟨(Ud hB).symm, by intro e; cases e⟩⟩
      obtain ⟨w1, w2, w3, w4⟩ := hW e
      have e2 : eR S = S.right := by unfold eR; rw [if_pos w4]
      exact ⟨w1, w2, by show S.left ≤ eR S; have := hB.lr; omega, by show eR S ≤ S.right; omega⟩
  rintro _ O13 ⟨S1, rfl, ho13, hw13, hB1, hW1, hP1, hL1, hT1⟩
  have hd13 := hw13.d
  have e1 := y9 hw13.q
  rw [xl] at e1
  have e2 : atI ((List.range S1.h).map (W.row q)) S1.row = some (W.row q S1.row.toNat) := xa hB1.r0 hB1.r1
  have r0 := hB1.r0
  have r1 := hB1.r1
  walk_at "wd"
  simp [hd13, and_assoc, zh, zK, zL, yl, zM, zC, zq, zD, zN, zo, zO, zP, zQ, ym, yn, zr, yo, zt, zR, yp, zS, zp, zT, yq, zu, zU, zE, zV, zF]
  rcases hL1 with e | ⟨c, e, hc'⟩
  · simp [e, xS]
    exact .inl (h d q S1 _ hd0 hq0 hw13 ⟨hB1, hP1, hW1, .inl e, hT1⟩ fun x _ _ hx => ho13 x hx)
  · have e3 : uI O13 (.row q S1.row.toNat) S1.col (.d (.tuple [.str c, .int S1.ink])) = _ := xI (c := (c, S1.ink)) hw13.q (by omega) hB1.c0 hB1.c1
    simp [e, xS, hd13, yP, e1, e2, e3, and_assoc, zh, zK, zL, yl, zM, zC, zq, zD, zN, zo, zO, zP, zQ, ym, yn, zr, yo, zt, zR, yp, zS, zp, zT, yq, zu, zU, zE, zV, zF]
    refine .inl (h d q _ _ hd0 hq0 hw13.pic ⟨hB1.pic', hP1.set hc', hW1, .inr ⟨c, e, ?_⟩, hT1⟩ fun x h1 h2 hx => by rw [zi h2]; exact ho13 x hx)
    show setF S1.pic S1.row.toNat S1.col.toNat (c, S1.ink) S1.row.toNat S1.col.toNat = _
    unfold setF
    rw [if_pos ⟨rfl, rfl⟩]
end
section
variable {P : Program} {w : World} {K : PySem.W.Frag} {mg : Str → Option Value} {base : Heap} {f C : Addr} {fd : FuncData}
theorem Vm (F : Fun K "_law_state" "_law_state" uZ f fd) (T : Txt K mg C) (c_State : CalM P w K mg base 4 "State" C (zb K (U1 C))) (zgx : Cal P w K mg base 5 "set_rows" [] (zb K (UU C))) (zgw : Cal P w K mg base 5 "set_columns" [] (zb K (UV C)))
    (zgC : Cal P w K mg base 5 "turn_modes" [] (zb K (ZB C))) (zfP : Cal P w K mg base 4 "_law_go_there" [] (zb K (sGo C))) (zgd : Cal P w K mg base 4 "dye" [] (zb K (UW C))) (zfJ : Cal P w K mg base 1 "_law_dyes" [] (zb K Y2)) (zgr : Cal P w K mg base 5 "put_sign" [] (zb K (vN C))) :
    FnOk P w K mg base CX0 6 f fd ["_law_own"] (zb K (XH C)) := by
  have nd := jt.nd
  apply F.okV jt (by rintro _ _ _ ⟨d, q, S, rfl, _⟩; rfl) (fun cdv A outer sh H E hr => (za (zZ (i := 1) nd rfl (Or.inl rfl) (zcs c_State (hr.mono (by decide)) rfl (QA.pa (qc (zf (zk hr) (pv 0) zd (fun _ _ => rfl)) (qc (zf (zk hr) (pv 0) zd (fun _ _ => rfl)) qn)))))
      (za (xK PassesOwn.never rfl (xP rfl T.n_range (QA.pa (qc (zf (zk hr) (pv 0) zd (fun _ _ => rfl)) qn))) (yO (i := 2) nd rfl (Or.inl rfl))
      (ze (xK PassesOwn.never rfl (xP rfl T.n_range (QA.pa (qc (zf (zk hr) (pv 0) zd (fun _ _ => rfl)) qn))) (yO (i := 3) nd rfl (Or.inl rfl))
      (ze (x3 (yM (yY (K := K) rfl) (yM (yY (K := K) rfl) (zf (zk hr) (pv 0) zd (fun _ _ => rfl)) (pv 2) (fun _ _ => rfl)) (pv 3) (fun _ _ => rfl)) (vm (yM (yY (K := K) rfl) (zl (K := K) rfl (pv 1) rfl) (pv 2) (fun _ _ => rfl)) (pv 3) xF))))))
      (za (yr (zj zgx (hr.mono (by decide)) rfl (QA.pa (qc (pv 1) (qc (zg yC (zf (zk hr) (pv 0) zd (fun _ _ => rfl)) zc) (qc (zg yC (zf (zk hr) (pv 0) zd (fun _ _ => rfl)) zc) qn))))))
      (za (yr (zj zgw (hr.mono (by decide)) rfl (QA.pa (qc (pv 1) (qc (zg yC (zf (zk hr) (pv 0) zd (fun _ _ => rfl)) zc) (qc (zg yC (zf (zk hr) (pv 0) zd (fun _ _ => rfl)) zc) qn))))))
      (za (yr (zj zgC (hr.mono (by decide)) rfl (QA.pa (qc (pv 1) (qc (yD (qc zc qn)) (qc (zf (zk hr) (pv 0) zd (fun _ _ => rfl)) qn))))))
      (za (yr (zj zfP (hr.mono (by decide)) rfl (QA.pa (qc (pv 1) (qc (pv 0) qn)))))
      (za (yr (zj zgd (hr.mono (by decide)) rfl (QA.pa (qc (pv 1) (qc (zj zfJ (hr.mono (by decide)) rfl (QA.pa (qc (zf (zk hr) (pv 0) zd (fun _ _ => rfl)) qn))) qn)))))
      (za (yA (zW ka (zf (zk hr) (pv 0) zd (fun _ _ => rfl)) yZ (zJ _)) (za (yr (zj zgr (hr.mono (by decide)) rfl (QA.pa (qc (pv 1) (qc (zf (zk hr) (pv 0) zd (fun _ _ => rfl)) qn)))))
      (ze (yA (vX (xj (zf (zk hr) (pv 0) zd (fun _ _ => rfl)))) (ze (yr (zj zfP (hr.mono (by decide)) rfl (QA.pa (qc (pv 1) (qc (pv 0) qn)))))) z0))) z0)
      (za (yr (zj zgC (hr.mono (by decide)) rfl (QA.pa (qc (pv 1) (qc (yD (qc zc qn)) (qc (zf (zk hr) (pv 0) zd (fun _ _ => rfl)) qn))))))
      (za (yr (zj zgC (hr.mono (by decide)) rfl (QA.pa (qc (pv 1) (qc (yD (qc zc qn)) (qc (zf (zk hr) (pv 0) zd (fun _ _ => rfl)) qn))))))
      (ze (zY (pv 1))))))))))))))
  · walk_at "ref"
  rintro _ O R ⟨d, q, S, rfl, ho, hD, h⟩
  have hB := hD.b
  have hd := ho.d
  refine yt (fun ρ' O' => ∃ x dx p st kp, ρ' = [some (.own d), some (.own x), none, none] ∧ Both O' C x dx p st kp d q (st0 S.w S.h fun _ _ => xx 0) S ∧ (∀ b, b ≠ x → b ≠ p → b ≠ st → b ≠ kp → O b ≠ none → O' b = O b)) (fun R1 hR1 => ?_) ?_
  · walk_at "wd"
    simp [hd, and_assoc, zh, zK, zL, yl, zM, zC, zq, zD, zN, zo, zO, zP, zQ, ym, yn, zr, yo, zt, zR, yp, zS, zp, zT, yq, zu, zU, zE, zV, zF]
    intro x dx hx
    refine ⟨x, dx, S.w, S.h, rfl, zn, hB.w1, hB.w2, hB.h1, hB.h2, fun p st kp O' hp hst hkp hs hfr => ⟨rfl, ?_⟩⟩
    have fr : ∀ {a o}, O a = some o → O' a = some o ∧ a ≠ x ∧ a ≠ p ∧ a ≠ st ∧ a ≠ kp := fun {a o} ha => by
      have h1 : a ≠ x := neO ha hx
      have ha' : updO O x (.ins C dx []) a = some o := by rw [zi h1]; exact ha
      exact ⟨by rw [hfr a h1 (neO ha' hp) (neO ha' hst) (neO ha' hkp)]; exact ha', h1, neO ha' hp, neO ha' hst, neO ha' hkp⟩
    refine hR1 _ _ ⟨x, dx, p, st, kp, rfl, ⟨hs, ⟨(fr ho.d).1, (fr ho.q).1⟩, (fr ho.d).2.2.2.1, Ne.symm (fr ho.q).2.2.1⟩, fun b h1 h2 h3 h4 hb => ?_⟩
    rw [hfr b h1 h2 h3 h4, zi h1]
  rintro _ O1 ⟨x, dx, p, st, kp, rfl, hb1, hf1⟩
  have FR : ∀ {O2 : OM}, But O1 O2 x p → ∀ b, b ≠ x → b ≠ p → b ≠ st → b ≠ kp → O b ≠ none → O2 b = O b := fun k b h1 h2 h3 h4 hb => (k b h1 h2).trans (hf1 b h1 h2 h3 h4 hb)
  refine yt (fun ρ' O' => ∃ v2 v3, ρ' = [some (.own d), some (.own x), v2, v3] ∧ Both O' C x dx p st kp d q (st0 S.w S.h S.pic) S ∧ But O1 O' x p) (fun R1 hR1 => ?_) ?_
  · have hd1 := hb1.o.d
    have w2 := hB.w2
    have h2 := hB.h2
    walk_at "wd"
    simp [hd1, and_assoc, zh, zK, zL, yl, zM, zC, zq, zD, zN, zo, zO, zP, zQ, ym, yn, zr, yo, zt, zR, yp, zS, zp, zT, yq, zu, zU, zE, zV, zF]
    refine ⟨by omega, ?_⟩
    obtain ⟨N, hN⟩ : ∃ N : PF, N = fun a b => if a < S.h ∧ b < S.w then S.pic a b else xx 0 := ⟨_, rfl⟩
    refine xA.rng (f := fun i => (i : Int)) (fun i ρ O' => ∃ v2 v3, ρ = [some (.own d), some (.own x), v2, v3] ∧ Both O' C x dx p st kp d q (st0 S.w S.h (goP N (fun _ _ => xx 0) 0 0 i 0)) S ∧ But O1 O' x p) ⟨_, _, rfl, ?_, But.refl⟩ ?_ ?_
    · rw [kR (fun a b hab => by omega)]
      exact hb1
    · rintro i _ O2 hi ⟨v2, v3, rfl, hb2, hk2⟩ R2 hR2
      have hd2 := hb2.o.d
      walk_at "wd"
      simp [hd2, and_assoc, zh, zK, zL, yl, zM, zC, zq, zD, zN, zo, zO, zP, zQ, ym, yn, zr, yo, zt, zR, yp, zS, zp, zT, yq, zu, zU, zE, zV, zF]
      refine ⟨by omega, ?_⟩
      refine xA.rng (f := fun i => (i : Int)) (fun j ρ O' => ∃ v3, ρ = [some (.own d), some (.own x), some (.d (.int i)), v3] ∧ Both O' C x dx p st kp d q (st0 S.w S.h (goP N (fun _ _ => xx 0) 0 0 i j)) S ∧ But O1 O' x p) ⟨_, rfl, hb2, hk2⟩ ?_ ?_
      · rintro j _ O3 hj ⟨v3, rfl, hb3, hk3⟩ R3 hR3
        have hd3 := hb3.o.d
        have hx3 := hb3.s.x
        have e1 := y9 hb3.s.p
        rw [xl] at e1
        have e2 : ∀ y, atI ((List.range S.h).map (W.row y)) (i : Int) = some (W.row y i) := fun y => xa (by omega) (by omega)
        have e3 := y9 hb3.o.q
        rw [xl] at e3
        have e4 := qZ hb3.o.q hi
        have e5 : atI ((List.range S.w).map fun j => W.d (yE (S.pic i j))) (j : Int) = some (.d (yE (S.pic i j))) := xa (by omega) (by omega)
        have e6 := xI (c := S.pic i j) hb3.s.p (i := i) (k := (j : Int)) hi (by omega) (by show (j : Int) < S.w; omega)
        have eN : N i j = S.pic i j := by rw [hN]; exact if_pos ⟨hi, hj⟩
        have e7 := kS (N := N) (f := fun _ _ => xx 0) (t := 0) (l := 0) (i := i) (j := j) (r := i) (c := j) (by omega) (by omega)
        rw [eN] at e7
        walk_at "wd"
        simp [hd3, hx3, st0, e1, e2, e3, e4, e5, e6, and_assoc, zh, zK, zL, yl, zM, zC, zq, zD, zN, zo, zO, zP, zQ, ym, yn, zr, yo, zt, zR, yp, zS, zp, zT, yq, zu, zU, zE, zV, zF, and_assoc, zh, T.st.cl, T.st.n_picture, T.st.n_wide, T.st.n_high, T.st.n_row, T.st.n_column, T.st.n_late, T.st.n_ink, T.st.n_wrap, T.st.n_putting, T.st.n_home, T.st.n_top, T.st.n_bottom, T.st.n_left, T.st.n_right, T.st.n_stops, T.st.n_kept, T.st.n_last, zv, z7, z9, yu, zy, ya, yv, yb, zw, yc, yw, zz, yd, zG, zH, ye, yf, yx, zA, yg, yy, yh, zx, yi, yz, zB, yj, zI, yk]
        rw [e7]
        exact hR3 _ _ ⟨_, rfl, hb3.st' (hb3.s.pic (f := goP N (fun _ _ => xx 0) 0 0 i (j + 1))) But.up, hk3.trans But.up⟩
      · rintro ρ O3 ⟨v3, rfl, hb3, hk3⟩
        rw [Z9 (fun a b h1 h2 => by rw [hN]; exact if_neg (by omega)) (fun a b h1 h2 => by omega)] at hb3
        exact hR2 _ _ ⟨_, _, rfl, hb3, hk3⟩
    · rintro ρ O2 ⟨v2, v3, rfl, hb2, hk2⟩
      rw [Ya (fun a b h1 => by rw [hN]; exact if_neg (by omega))] at hb2
      refine hR1 _ _ ⟨_, _, rfl, ⟨?_, hb2.o, hb2.ds, hb2.pq⟩, hk2⟩
      exact StAt.picEq (S := st0 S.w S.h N) hb2.s fun i j hi hj => by rw [hN]; exact if_pos ⟨hi, hj⟩
  rintro _ O2 ⟨v2, v3, rfl, hb2, hk2⟩
  have d2 := hb2.o.d
  have t0 := hB.t0
  have tb := hB.tb
  have bb := hB.b1
  have l0 := hB.l0
  have lr := hB.lr
  have rr := hB.rr
  have w1 := hB.w1
  have w2 := hB.w2
  have h1' := hB.h1
  have h2' := hB.h2
  refine yt (fun ρ' O' => ρ' = [some (.own d), some (.own x), v2, v3] ∧ Both O' C x dx p st kp d q { st0 S.w S.h S.pic with top := S.top, bottom := S.bottom } S ∧ But O1 O' x p) (fun R1 hR1 => ?_) ?_
  · walk_at "wd"
    simp [d2, and_assoc, zh, zK, zL, yl, zM, zC, zq, zD, zN, zo, zO, zP, zQ, ym, yn, zr, yo, zt, zR, yp, zS, zp, zT, yq, zu, zU, zE, zV, zF]
    refine ⟨.int (S.top + 1), .int (S.bottom + 1), ⟨by omega, by omega⟩, ⟨by omega, by omega⟩, x, dx, p, st, kp, _, rfl, hb2.s, trivial, fun O' g1 g2 => ?_⟩
    rw [KJ (S := st0 S.w S.h S.pic) t0 tb bb rfl w1] at g1
    exact hR1 _ _ ⟨rfl, hb2.st' g1 g2, hk2.trans g2⟩
  rintro _ O3 ⟨rfl, hb3, hk3⟩
  have d3 := hb3.o.d
  refine yt (fun ρ' O' => ρ' = [some (.own d), some (.own x), v2, v3] ∧ Both O' C x dx p st kp d q { st0 S.w S.h S.pic with top := S.top, bottom := S.bottom, left := S.left, right := S.right } S ∧ But O1 O' x p) (fun R1 hR1 => ?_) ?_
  · walk_at "wd"
    simp [d3, and_assoc, zh, zK, zL, yl, zM, zC, zq, zD, zN, zo, zO, zP, zQ, ym, yn, zr, yo, zt, zR, yp, zS, zp, zT, yq, zu, zU, zE, zV, zF]
    refine ⟨.int (S.left + 1), .int (S.right + 1), ⟨by omega, by omega⟩, ⟨by omega, by omega⟩, x, dx, p, st, kp, _, rfl, hb3.s, trivial, fun O' g1 g2 => ?_⟩
    rw [KK (S := { st0 S.w S.h S.pic with top := S.top, bottom := S.bottom }) l0 lr rr rfl h1'] at g1
    exact hR1 _ _ ⟨rfl, hb3.st' g1 g2, hk3.trans g2⟩
  rintro _ O4 ⟨rfl, hb4, hk4⟩
  have d4 := hb4.o.d
  refine yt (fun ρ' O' => ∃ r c, ρ' = [some (.own d), some (.own x), v2, v3] ∧ Both O' C x dx p st kp d q { st0 S.w S.h S.pic with top := S.top, bottom := S.bottom, left := S.left, right := S.right, home := S.home, row := r, col := c } S ∧ But O1 O' x p) (fun R1 hR1 => ?_) ?_
  · walk_at "wd"
    simp [d4, yP, and_assoc, zh, zK, zL, yl, zM, zC, zq, zD, zN, zo, zO, zP, zQ, ym, yn, zr, yo, zt, zR, yp, zS, zp, zT, yq, zu, zU, zE, zV, zF]
    refine ⟨3, S.home, x, dx, p, st, kp, _, rfl, hb4.s, trivial, fun O' g1 g2 => ?_⟩
    obtain ⟨r, c, e⟩ := @KL S.home { st0 S.w S.h S.pic with top := S.top, bottom := S.bottom, left := S.left, right := S.right }
    rw [e] at g1
    exact hR1 _ _ ⟨r, c, rfl, hb4.st' g1 g2, hk4.trans g2⟩
  rintro _ O5 ⟨r, c, rfl, hb5, hk5⟩
  refine yt (fun ρ' O' => ρ' = [some (.own d), some (.own x), v2, v3] ∧ Both O' C x dx p st kp d q { st0 S.w S.h S.pic with top := S.top, bottom := S.bottom, left := S.left, right := S.right, home := S.home, row := S.row, col := S.col } S ∧ But O1 O' x p) (fun R1 hR1 => ?_) ?_
  · walk_at "wd"
    exact ⟨x, dx, p, st, kp, d, q, _, S, rfl, hb5, hB, hD.win, rfl, rfl, rfl, rfl, rfl, rfl, rfl, fun O' g1 g2 => hR1 _ _ ⟨rfl, g1, hk5.trans g2⟩⟩
  rintro _ O6 ⟨rfl, hb6, hk6⟩
  have d6 := hb6.o.d
  refine yt (fun ρ' O' => ρ' = [some (.own d), some (.own x), v2, v3] ∧ Both O' C x dx p st kp d q { S with late := false, wrap := true, putting := false, last := .none } S ∧ But O1 O' x p) (fun R1 hR1 => ?_) ?_
  · obtain ⟨k1, k2⟩ := XE ⟨hB.i0, hB.i1⟩
    walk_at "wd"
    simp [d6, and_assoc, zh, zK, zL, yl, zM, zC, zq, zD, zN, zo, zO, zP, zQ, ym, yn, zr, yo, zt, zR, yp, zS, zp, zT, yq, zu, zU, zE, zV, zF]
    refine ⟨_, rfl, ⟨hB.i0, hB.i1⟩, _, k1, x, dx, p, st, kp, _, rfl, hb6.s, ⟨Int.le_refl 0, (by decide : (0 : Int) < 512)⟩, fun O' g1 g2 => ?_⟩
    unfold jb at g1
    rw [k2] at g1
    exact hR1 _ _ ⟨rfl, hb6.st' g1 g2, hk6.trans g2⟩
  rintro _ O7 ⟨rfl, hb7, hk7⟩
  have d7 := hb7.o.d
  have hB7 : Bds { S with late := false, wrap := true, putting := false, last := .none } := { hB with }
  refine yt (fun ρ' O' => ρ' = [some (.own d), some (.own x), v2, v3] ∧ Both O' C x dx p st kp d q { S with wrap := true, putting := false } S ∧ But O1 O' x p) (fun R1 hR1 => ?_) ?_
  · walk_at "wd"
    simp [d7, and_assoc, zh, zK, zL, yl, zM, zC, zq, zD, zN, zo, zO, zP, zQ, ym, yn, zr, yo, zt, zR, yp, zS, zp, zT, yq, zu, zU, zE, zV, zF]
    rcases hD.last with e | ⟨c, e, hc⟩
    · have el : S.late = false := by
        cases hl : S.late with
        | false => rfl
        | true => exact absurd e (hD.late hl).2
      simp [e, xS]
      refine hR1 _ _ ⟨rfl, ?_, hk7⟩
      have e2 : ({ S with late := false, wrap := true, putting := false, last := .none } : ST) = { S with wrap := true, putting := false } := by rw [← el, ← e]
      rw [← e2]
      exact hb7
    · simp [e, xS]
      refine ⟨c, x, dx, p, st, kp, _, rfl, hb7.s, hB7, fun O' g1 g2 => ?_⟩
      rw [KM (S := { S with late := false, wrap := true, putting := false, last := .none }) rfl rfl hc] at g1
      have hb8 := hb7.st' g1 g2
      have d8 := hb8.o.d
      simp [d8, and_assoc, zh, zK, zL, yl, zM, zC, zq, zD, zN, zo, zO, zP, zQ, ym, yn, zr, yo, zt, zR, yp, zS, zp, zT, yq, zu, zU, zE, zV, zF]
      cases hl : S.late with
      | true =>
        simp
        have hcol := (hD.late hl).1
        rw [if_neg (by show ¬ S.col < eR S; omega)] at hb8
        refine hR1 _ _ ⟨rfl, ?_, hk7.trans g2⟩
        have e2 : ({ S with late := true, wrap := true, putting := false, last := .str c } : ST) = { S with wrap := true, putting := false } := by rw [← hl, ← e]
        rw [← e2]
        exact hb8
      | false =>
        simp
        have key : ∀ S8 : ST, Both O' C x dx p st kp d q S8 S → S8.w = S.w → S8.h = S.h → S8.home = S.home → S8.top = S.top → S8.bottom = S.bottom → S8.left = S.left → S8.right = S.right → ({ S8 with row := S.row, col := S.col, late := false } : ST) = { S with wrap := true, putting := false } → sGo C [.own x, .own d] O' fun _ O1 => R1 [some (.own d), some (.own x), v2, v3] O1 := fun S8 hb a1 a2 a3 a4 a5 a6 a7 a8 =>
          ⟨x, dx, p, st, kp, d, q, S8, S, rfl, hb, hB, hD.win, a1, a2, a3, a4, a5, a6, a7, fun O'' g3 g4 => hR1 _ _ ⟨rfl, by rw [← a8]; exact g3, (hk7.trans g2).trans g4⟩⟩
        split at hb8
        · exact key _ hb8 rfl rfl rfl rfl rfl rfl rfl (by show ({ S with late := false, wrap := true, putting := false, last := .str c } : ST) = _; rw [← hl, ← e])
        · exact key _ hb8 rfl rfl rfl rfl rfl rfl rfl (by show ({ S with late := false, wrap := true, putting := false, last := .str c } : ST) = _; rw [← hl, ← e])
  rintro _ O8 ⟨rfl, hb8, hk8⟩
  have d8 := hb8.o.d
  refine yt (fun ρ' O' => ρ' = [some (.own d), some (.own x), v2, v3] ∧ Both O' C x dx p st kp d q { S with putting := false } S ∧ But O1 O' x p) (fun R1 hR1 => ?_) ?_
  · walk_at "wd"
    simp [d8, yP, and_assoc, zh, zK, zL, yl, zM, zC, zq, zD, zN, zo, zO, zP, zQ, ym, yn, zr, yo, zt, zR, yp, zS, zp, zT, yq, zu, zU, zE, zV, zF]
    exact ⟨1, S.wrap, x, dx, p, st, kp, _, rfl, hb8.s, trivial, fun O' g1 g2 => hR1 _ _ ⟨rfl, hb8.st' g1 g2, hk8.trans g2⟩⟩
  rintro _ O9 ⟨rfl, hb9, hk9⟩
  have d9 := hb9.o.d
  walk_at "wd"
  simp [d9, yP, and_assoc, zh, zK, zL, yl, zM, zC, zq, zD, zN, zo, zO, zP, zQ, ym, yn, zr, yo, zt, zR, yp, zS, zp, zT, yq, zu, zU, zE, zV, zF]
  exact ⟨2, S.putting, x, dx, p, st, kp, _, rfl, hb9.s, trivial, fun O' g1 g2 => .inl (h x dx p st kp O' (hb9.st' g1 g2) (FR (hk9.trans g2)))⟩
end
section
variable {P : Program} {w : World} {K : PySem.W.Frag} {mg : Str → Option Value} {base : Heap} {f C : Addr} {fd : FuncData}
theorem Yk (F : Fun K "_law_changed" "_law_changed" vV f fd) (T : Txt K mg C) (zfU : Cal P w K mg base 1 "_law_place" [] (zb K kn)) (zfX : Cal P w K mg base 1 "_law_right_edge" [] (zb K qL))
    (zgC : Cal P w K mg base 5 "turn_modes" [] (zb K (ZB C))) (zfP : Cal P w K mg base 4 "_law_go_there" [] (zb K (sGo C))) (zgd : Cal P w K mg base 4 "dye" [] (zb K (UW C))) (zfJ : Cal P w K mg base 1 "_law_dyes" [] (zb K Y2)) (zgr : Cal P w K mg base 5 "put_sign" [] (zb K (vN C))) :
    FnOk P w K mg base CX0 6 f fd ["_law_state_here", "_law_own", "_law_number"] (zb K (kT C)) := by
  apply F.okV ZQ (by rintro _ _ _ ⟨x, dx, p, st, kp, d, q, S, n, rfl, _⟩; rfl) (fun cdv A outer sh H E hr => (za (yr (zj zfU (hr.mono (by decide)) rfl (QA.pa (qc (pv 1) (qc (pv 2) qn)))))
      (za (yI (zk hr) (pv 1) zd (zg yH (zg yF (pv 2) zc) zc) rfl)
      (za (yI (zk hr) (pv 1) zd (xi yX (zg yH (zg yF (pv 2) zc) zc) zc (zJ _)) rfl)
      (za (yA (xj (zf (zk hr) (pv 1) zd (fun _ _ => rfl))) (ze (yI (zk hr) (pv 1) zd (zj zfX (hr.mono (by decide)) rfl (QA.pa (qc (pv 1) qn))) rfl)) z0)
      (za (yr (zj zfP (hr.mono (by decide)) rfl (QA.pa (qc (pv 0) (qc (pv 1) qn)))))
      (za (yr (zj zgd (hr.mono (by decide)) rfl (QA.pa (qc (pv 0) (qc (zj zfJ (hr.mono (by decide)) rfl (QA.pa (qc (zf (zk hr) (pv 1) zd (fun _ _ => rfl)) qn))) qn)))))
      (za (yA (xj (zf (zk hr) (pv 1) zd (fun _ _ => rfl))) (za (yr (zj zgC (hr.mono (by decide)) rfl (QA.pa (qc (pv 0) (qc (yD (qc zc qn)) (qc yW qn))))))
      (za (yr (zj zgr (hr.mono (by decide)) rfl (QA.pa (qc (pv 0) (qc zd qn)))))
      (za (x3 (yD (qc zd (qc (zf (zk hr) (pv 1) zd (fun _ _ => rfl)) qn))) (vm (yM (yY (K := K) rfl) (zf (zk hr) (pv 1) zd (fun _ _ => rfl)) (zf (zk hr) (pv 1) zd (fun _ _ => rfl)) (fun _ _ => rfl)) (zf (zk hr) (pv 1) zd (fun _ _ => rfl)) xF))
      (ze (yI (zk hr) (pv 1) zd zd rfl))))) z0)
      (za (yI (zk hr) (pv 1) zd (xi Zb (zg yH (zg yF (pv 2) zc) zc) zc (zJ _)) rfl)
      (za (yI (zk hr) (pv 1) zd (xi yX (zg yH (zg yF (pv 2) zc) zc) zc (zJ _)) rfl)
      (za (yr (zj zgC (hr.mono (by decide)) rfl (QA.pa (qc (pv 0) (qc (yD (qc zc qn)) (qc (zf (zk hr) (pv 1) zd (fun _ _ => rfl)) qn))))))
      (ze (yr (zj zgC (hr.mono (by decide)) rfl (QA.pa (qc (pv 0) (qc (yD (qc zc qn)) (qc (zf (zk hr) (pv 1) zd (fun _ _ => rfl)) qn))))))))))))))))))
  · walk_at "ref"
  rintro _ O R ⟨x, dx, p, st, kp, d, q, S, n, rfl, hn, hb, hB, hP, h⟩
  refine yt (fun ρ' O' => ∃ r c, ρ' = [some (.own x), some (.own d), some (.d (.int n))] ∧ Both O' C x dx p st kp d q S { S with row := r, col := c } ∧ Bds { S with row := r, col := c } ∧ InWin { S with row := r, col := c }) (fun R1 hR1 => ?_) ?_
  · walk_at "wd"
    refine ⟨d, q, S, n, rfl, hn, .inl hb.o.d, hB.h1, hB.w1, ?_⟩
    rintro _ ⟨r, c, rfl⟩ hB'
    have hB' := hB' { hB with r0 := Int.le_refl 0, r1 := by have := hB.r0; have := hB.r1; simp only; omega, c0 := Int.le_refl 0, c1 := by have := hB.c0; have := hB.c1; simp only; omega }
    exact hR1 _ _ ⟨r, c, rfl, hb.ow' (hb.o.fld rfl rfl rfl) But.ux, hB'.1, hB'.2⟩
  rintro _ O1 ⟨r, c, rfl, hb1, hB1, hW1⟩
  refine yt (fun ρ' O' => ∃ ik, Ink ik ∧ ρ' = [some (.own x), some (.own d), some (.d (.int n))] ∧ Both O' C x dx p st kp d q S { S with row := r, col := c, ink := ik }) (fun R1 hR1 => ?_) ?_
  · have d1 := hb1.o.d
    walk_at "wd"
    simp [d1, xy, xm, and_assoc, zh, zK, zL, yl, zM, zC, zq, zD, zN, zo, zO, zP, zQ, ym, yn, zr, yo, zt, zR, yp, zS, zp, zT, yq, zu, zU, zE, zV, zF]
    exact hR1 _ _ ⟨_, ⟨by omega, by omega⟩, rfl, hb1.ow' (hb1.o.fld rfl rfl rfl) But.ux⟩
  rintro _ O2 ⟨ik, hik, rfl, hb2⟩
  refine yt (fun ρ' O' => ∃ lt, ρ' = [some (.own x), some (.own d), some (.d (.int n))] ∧ Both O' C x dx p st kp d q S { S with row := r, col := c, ink := ik, late := lt }) (fun R1 hR1 => ?_) ?_
  · have d2 := hb2.o.d
    walk_at "wd"
    simp [d2, xy, xm, and_assoc, zh, zK, zL, yl, zM, zC, zq, zD, zN, zo, zO, zP, zQ, ym, yn, zr, yo, zt, zR, yp, zS, zp, zT, yq, zu, zU, zE, zV, zF]
    exact hR1 _ _ ⟨_, rfl, hb2.ow' (hb2.o.fld rfl rfl rfl) But.ux⟩
  rintro _ O3 ⟨lt, rfl, hb3⟩
  have hB3 : Bds { S with row := r, col := c, ink := ik, late := lt } := { hB1 with i0 := hik.1, i1 := hik.2 }
  have hW3 : InWin { S with row := r, col := c, ink := ik, late := lt } := hW1
  refine yt (fun ρ' O' => ∃ c2, ρ' = [some (.own x), some (.own d), some (.d (.int n))] ∧ Both O' C x dx p st kp d q S { S with row := r, col := c2, ink := ik, late := lt } ∧ Bds { S with row := r, col := c2, ink := ik, late := lt } ∧ InWin { S with row := r, col := c2, ink := ik, late := lt } ∧ (lt = true → c2 = eR { S with row := r, col := c2, ink := ik, late := lt })) (fun R1 hR1 => ?_) ?_
  · have d3 := hb3.o.d
    walk_at "wd"
    simp [d3, and_assoc, zh, zK, zL, yl, zM, zC, zq, zD, zN, zo, zO, zP, zQ, ym, yn, zr, yo, zt, zR, yp, zS, zp, zT, yq, zu, zU, zE, zV, zF]
    cases lt with
    | false =>
      simp
      exact hR1 _ _ ⟨c, rfl, hb3, hB3, hW3, fun e => by cases e⟩
    | true =>
      simp
      refine ⟨d, q, _, rfl, d3, ?_⟩
      simp [d3, xm, and_assoc, zh, zK, zL, yl, zM, zC, zq, zD, zN, zo, zO, zP, zQ, ym, yn, zr, yo, zt, zR, yp, zS, zp, zT, yq, zu, zU, zE, zV, zF]
      have eR1 := qe hB3
      have c0 := hB3.c0
      simp only at c0 eR1
      refine hR1 _ _ ⟨eR { S with row := r, col := c, ink := ik, late := true }, rfl, hb3.ow' (hb3.o.fld rfl rfl rfl) But.ux, { hB3 with c0 := by simp only; omega, c1 := eR1.2 }, fun e => ?_, fun _ => (Ud hB3).symm⟩
      obtain ⟨w1, w2, w3, w4⟩ := hW3 e
      have e2 : eR { S with row := r, col := c, ink := ik, late := true } = S.right := by unfold eR; rw [if_pos w4]
      have := hB.lr
      exact ⟨w1, w2, by simp only; omega, by simp only; omega⟩
  rintro _ O4 ⟨c2, rfl, hb4, hB4, hW4, hE4⟩
  refine yt (fun ρ' O' => ρ' = [some (.own x), some (.own d), some (.d (.int n))] ∧ Both O' C x dx p st kp d q { S with row := r, col := c2, late := false } { S with row := r, col := c2, ink := ik, late := lt }) (fun R1 hR1 => ?_) ?_
  · walk_at "wd"
    exact ⟨x, dx, p, st, kp, d, q, S, _, rfl, hb4, hB4, hW4, rfl, rfl, rfl, rfl, rfl, rfl, rfl, fun O' g1 g2 => hR1 _ _ ⟨rfl, g1⟩⟩
  rintro _ O5 ⟨rfl, hb5⟩
  refine yt (fun ρ' O' => ρ' = [some (.own x), some (.own d), some (.d (.int n))] ∧ Both O' C x dx p st kp d q { S with row := r, col := c2, late := false, ink := ik } { S with row := r, col := c2, ink := ik, late := lt }) (fun R1 hR1 => ?_) ?_
  · obtain ⟨k1, k2⟩ := XE hik
    have d5 := hb5.o.d
    walk_at "wd"
    simp [d5, and_assoc, zh, zK, zL, yl, zM, zC, zq, zD, zN, zo, zO, zP, zQ, ym, yn, zr, yo, zt, zR, yp, zS, zp, zT, yq, zu, zU, zE, zV, zF]
    refine ⟨_, rfl, hik, _, k1, x, dx, p, st, kp, _, rfl, hb5.s, ⟨hB.i0, hB.i1⟩, fun O' g1 g2 => ?_⟩
    unfold jb at g1
    rw [k2] at g1
    exact hR1 _ _ ⟨rfl, hb5.st' g1 g2⟩
  rintro _ O6 ⟨rfl, hb6⟩
  refine yt (fun ρ' O' => ∃ Z : ST, ρ' = [some (.own x), some (.own d), some (.d (.int n))] ∧ (∃ u, Both O' C x dx p st kp d q { Z with wrap := u } Z) ∧ Bds Z ∧ yQ Z) (fun R1 hR1 => ?_) ?_
  · have d6 := hb6.o.d
    walk_at "wd"
    simp [d6, and_assoc, zh, zK, zL, yl, zM, zC, zq, zD, zN, zo, zO, zP, zQ, ym, yn, zr, yo, zt, zR, yp, zS, zp, zT, yq, zu, zU, zE, zV, zF]
    cases lt with
    | false =>
      simp
      exact hR1 _ _ ⟨_, rfl, ⟨S.wrap, hb6⟩, hB4, hP⟩
    | true =>
      simp [yP]
      refine ⟨1, true, x, dx, p, st, kp, _, rfl, hb6.s, trivial, fun O' g1 g2 => ?_⟩
      have hb7 := hb6.st' g1 g2
      refine ⟨Str.ofString "w", x, dx, p, st, kp, _, rfl, hb7.s, { hB4 with }, fun O'' g3 g4 => ?_⟩
      have g3 : StAt O'' C x dx p st kp (qa (Str.ofString "w") { S with row := r, col := c2, late := false, ink := ik, wrap := true }) := g3
      rw [KN (S := { S with row := r, col := c2, late := false, ink := ik, wrap := true }) { hB4 with } rfl (hE4 rfl)] at g3
      have hb8 := hb7.st' g3 g4
      have d8 := hb8.o.d
      have e1 := y9 hb8.o.q
      rw [xl] at e1
      have r0 := hB4.r0
      have r1 := hB4.r1
      simp only at r0 r1
      have e2 : atI ((List.range S.h).map (W.row q)) r = some (W.row q r.toNat) := xa r0 r1
      have e3 : uI O'' (.row q r.toNat) c2 (.d (.tuple [.str (Str.ofString "w"), .int ik])) = _ := xI (c := (Str.ofString "w", ik)) hb8.o.q (by simp only; omega) hB4.c0 hB4.c1
      have hdq : d ≠ q := hb8.o.dq
      simp [d8, e1, e2, e3, yP, zi hdq, xm, and_assoc, zh, zK, zL, yl, zM, zC, zq, zD, zN, zo, zO, zP, zQ, ym, yn, zr, yo, zt, zR, yp, zS, zp, zT, yq, zu, zU, zE, zV, zF]
      have ho9 := hb8.o.pic (f := setF S.pic r.toNat c2.toNat (Str.ofString "w", ik))
      refine hR1 _ _ ⟨{ S with row := r, col := c2, ink := ik, late := true, pic := setF S.pic r.toNat c2.toNat (Str.ofString "w", ik), last := .str (Str.ofString "w") }, rfl, ⟨true, ?_⟩, { hB4 with }, ?_⟩
      · have ho10 := ho9.fld (S' := { S with row := r, col := c2, ink := ik, late := true, pic := setF S.pic r.toNat c2.toNat (Str.ofString "w", ik), last := .str (Str.ofString "w") }) rfl rfl rfl
        exact (hb8.ow' ho9 But.up).ow' ho10 But.ux
      · exact ⟨PicOk.set (S := { S with row := r, col := c2, ink := ik, late := true, last := .str (Str.ofString "w") }) hP.1 (by decide +kernel), XF (by decide +kernel)⟩
  rintro _ O7 ⟨Z, rfl, ⟨u, hb7⟩, hBZ, hPZ⟩
  refine yt (fun ρ' O' => ∃ wr, ρ' = [some (.own x), some (.own d), some (.d (.int n))] ∧ Both O' C x dx p st kp d q { Z with wrap := u } { Z with wrap := wr }) (fun R1 hR1 => ?_) ?_
  · have d7 := hb7.o.d
    walk_at "wd"
    simp [d7, xy, xm, and_assoc, zh, zK, zL, yl, zM, zC, zq, zD, zN, zo, zO, zP, zQ, ym, yn, zr, yo, zt, zR, yp, zS, zp, zT, yq, zu, zU, zE, zV, zF]
    exact hR1 _ _ ⟨_, rfl, hb7.ow' (hb7.o.fld rfl rfl rfl) But.ux⟩
  rintro _ O8 ⟨wr, rfl, hb8⟩
  refine yt (fun ρ' O' => ∃ pu, ρ' = [some (.own x), some (.own d), some (.d (.int n))] ∧ Both O' C x dx p st kp d q { Z with wrap := u } { Z with wrap := wr, putting := pu }) (fun R1 hR1 => ?_) ?_
  · have d8 := hb8.o.d
    walk_at "wd"
    simp [d8, xy, xm, and_assoc, zh, zK, zL, yl, zM, zC, zq, zD, zN, zo, zO, zP, zQ, ym, yn, zr, yo, zt, zR, yp, zS, zp, zT, yq, zu, zU, zE, zV, zF]
    exact hR1 _ _ ⟨_, rfl, hb8.ow' (hb8.o.fld rfl rfl rfl) But.ux⟩
  rintro _ O9 ⟨pu, rfl, hb9⟩
  refine yt (fun ρ' O' => ρ' = [some (.own x), some (.own d), some (.d (.int n))] ∧ Both O' C x dx p st kp d q { Z with wrap := wr } { Z with wrap := wr, putting := pu }) (fun R1 hR1 => ?_) ?_
  · have d9 := hb9.o.d
    walk_at "wd"
    simp [d9, yP, and_assoc, zh, zK, zL, yl, zM, zC, zq, zD, zN, zo, zO, zP, zQ, ym, yn, zr, yo, zt, zR, yp, zS, zp, zT, yq, zu, zU, zE, zV, zF]
    exact ⟨1, wr, x, dx, p, st, kp, _, rfl, hb9.s, trivial, fun O' g1 g2 => hR1 _ _ ⟨rfl, hb9.st' g1 g2⟩⟩
  rintro _ O10 ⟨rfl, hb10⟩
  have d10 := hb10.o.d
  walk_at "wd"
  simp [d10, yP, and_assoc, zh, zK, zL, yl, zM, zC, zq, zD, zN, zo, zO, zP, zQ, ym, yn, zr, yo, zt, zR, yp, zS, zp, zT, yq, zu, zU, zE, zV, zF]
  exact ⟨2, pu, x, dx, p, st, kp, _, rfl, hb10.s, trivial, fun O' g1 g2 => .inl (h { Z with wrap := wr, putting := pu } O' (hb10.st' g1 g2) { hBZ with } hPZ)⟩
theorem VM (F : Fun K "_law_most" "_law_most" qE f fd) (T : Txt K mg C) : FnOk P w K mg base CX0 1 f fd ["_law_own"] (zb K U8) := by
  apply F.okV X8 (by rintro _ _ _ ⟨d, q, S, rfl, _⟩; rfl) (fun cdv A outer sh H E hr => (ze (zY (xg (zW qT (zg xB (zf (zk hr) (pv 0) zd (fun _ _ => rfl)) (zf (zk hr) (pv 0) zd (fun _ _ => rfl))) zc (zJ _)) zc zc))))
  · walk_at "ref"
  rintro _ O R ⟨d, q, S, rfl, hd, hw, hh, h⟩
  walk_at "wd"
  simp [hd, and_assoc, zh, zK, zL, yl, zM, zC, zq, zD, zN, zo, zO, zP, zQ, ym, yn, zr, yo, zt, zR, yp, zS, zp, zT, yq, zu, zU, zE, zV, zF]
  refine ⟨mulL (by omega) (by omega), ?_⟩
  split
  · exact .inl (h 63 (by decide) (by decide))
  · exact .inl (h 20 (by decide) (by decide))
end
theorem zaH {l : List W} : List.filterMap (fun _ : W => (none : Option PyData)) l = [] := by induction l with
  | nil => rfl
  | cons a l ih => rw [List.filterMap_cons]; exact ih
section
variable {P : Program} {w : World} {K : PySem.W.Frag} {mg : Str → Option Value} {base : Heap} {f C : Addr} {fd : FuncData}
theorem Vn (F : Fun K "_law_right" "_law_right" u3 f fd) (T : Txt K mg C) : FnOk P w K mg base CX0 1 f fd ["_law_state_here", "_law_own"] (zb K (ZH C)) := by
  have nd := ju.nd
  apply F.okV ju (by rintro _ _ _ ⟨x, dx, p, st, kp, d, q, S, rfl, _⟩; rfl) (fun cdv A outer sh H E hr => (za (zZ (i := 2) nd rfl (Or.inl rfl) (xr (qc zd (qc zd (qc zd (qc zd (qc zd qn)))))))
      (za (zZ (i := 3) nd rfl (Or.inl rfl) (xr (qc (zl (K := K) rfl (pv 0) rfl) (qc (zl (K := K) rfl (pv 0) rfl) (qc (zl (K := K) rfl (pv 0) rfl) (qc (zl (K := K) rfl (pv 0) rfl) (qc (zl (K := K) rfl (pv 0) rfl) qn)))))))
      (za (zZ (i := 2) nd rfl (Or.inl rfl) (zg (QT (K := K) rfl) (pv 2) (xr (qc zd (qc zd (qc zd (qc zd qn)))))))
      (za (zZ (i := 3) nd rfl (Or.inl rfl) (zg (QT (K := K) rfl) (pv 3) (xr (qc (zl (K := K) rfl (pv 0) rfl) (qc (zl (K := K) rfl (pv 0) rfl) (qc (zl (K := K) rfl (pv 0) rfl) (qc (zl (K := K) rfl (pv 0) rfl) qn)))))))
      (za (yA (zW (uL (K := K) rfl hr.units) (pv 3) (u6 (qV (N := ["_law_name", "_law_own"]) (n := 1) (js := [1])) rfl (uK (K := K) rfl (pv 2)) (fun _ _ _ _ => (yO (i := 0) (show List.Nodup (["_law_name", "_law_own"] : List Str) by decide +kernel) rfl (Or.inl rfl))) (fun _ _ _ _ => uu) (fun _ _ _ _ => (zf (zk hr) (pv 1) (pv 0) (fun _ _ => rfl)))) (zJ _)) (ze (zY yW)) z0)
      (za (yA (zW (uL (K := K) rfl hr.units) (u6 (qV (N := ["_law_one"]) (n := 1) (js := [])) rfl (uK (K := K) rfl (pv 3)) (fun _ _ _ _ => (yO (i := 0) (show List.Nodup (["_law_one"] : List Str) by decide +kernel) rfl (Or.inl rfl))) (fun _ _ _ _ => (Z4 (xj (y7 (jI (K := K) rfl) (by rfl) T.n_isinstance (by rfl) (QA.pa (qc (pv 0) (qc (ZZ (v := .ty "bool") (u := .type "bool") rfl T.n_bool rfl rfl) qn))))))) (fun _ _ _ _ => (pv 0))) (xr qn) (zJ _)) (ze (zY yW)) z0)
      (za (zZ (i := 2) nd rfl (Or.inl rfl) (xr (qc zd (qc zd (qc zd (qc zd qn))))))
      (za (zZ (i := 3) nd rfl (Or.inl rfl) (xr (qc (zl (K := K) rfl (pv 0) rfl) (qc (zl (K := K) rfl (pv 0) rfl) (qc (zl (K := K) rfl (pv 0) rfl) (qc (zl (K := K) rfl (pv 0) rfl) qn))))))
      (za (yA (zW (uL (K := K) rfl hr.units) (u6 (qV (N := ["_law_one"]) (n := 1) (js := [])) rfl (uK (K := K) rfl (pv 3)) (fun _ _ _ _ => (yO (i := 0) (show List.Nodup (["_law_one"] : List Str) by decide +kernel) rfl (Or.inl rfl))) (fun _ _ _ _ => (Z4 (PW.pt (k7 (zW V0 (pv 0) yW (zJ _)) (j9 (zW V0 (pv 0) yW (zJ _))))))) (fun _ _ _ _ => (pv 0))) (xr qn) (zJ _)) (ze (zY yW)) z0)
      (za (yA (PW.pt (qS (zW (uL (K := K) rfl hr.units) (pv 3) (u6 (qV (N := ["_law_name", "_law_own"]) (n := 1) (js := [1])) rfl (uK (K := K) rfl (pv 2)) (fun _ _ _ _ => (yO (i := 0) (show List.Nodup (["_law_name", "_law_own"] : List Str) by decide +kernel) rfl (Or.inl rfl))) (fun _ _ _ _ => uu) (fun _ _ _ _ => (zf (zk hr) (pv 1) (pv 0) (fun _ _ => rfl)))) (zJ _)) (uB (zW (uL (K := K) rfl hr.units) (zl (K := K) rfl (pv 0) rfl) (zf (zk hr) (pv 1) zd (fun _ _ => rfl)) (zJ _))))) (ze (zY yW)) z0)
      (za (yA (PW.pt (qS (zW (uL (K := K) rfl hr.units) (zl (K := K) rfl (pv 0) rfl) (zf (zk hr) (pv 1) zd (fun _ _ => rfl)) (zJ _)) (uB (zW (uL (K := K) rfl hr.units) (zl (K := K) rfl (pv 0) rfl) (xr qn) (zJ _))))) (ze (zY yW)) z0)
      (ze (zY (xi (zc7 (K := K) rfl hr.units) (y7 (zbE (K := K) rfl) (by rfl) T.n_sorted (by rfl) (QA.pa (qc (vy (zdh rfl) (by rfl) T.n_list rfl (QA.pa (qc (zl (K := K) rfl (pv 0) rfl) qn))) qn))) (vy (zdj rfl) (by rfl) T.n_list rfl (QA.pa (qc (zbD rfl T.n_range (QA.pa (qc zc (qc (zf (zk hr) (pv 1) zd (fun _ _ => rfl)) (qc zc qn))))) qn))) (zJ _))))))))))))))))
  · walk_at "ref"
  rintro _ O R ⟨x, dx, p, st, kp, d, q, S, rfl, hb, hB, hP, h⟩
  have hx := hb.s.x
  have hd := hb.o.d
  refine yt (fun ρ' O' => ρ' = [some (.own x), some (.own d), some (.d (.list [.str "wide", .str "high", .str "row", .str "column", .str "ink"])), none] ∧ O = O') (fun R1 hR1 => ?_) ?_
  · walk_at "wd"
    exact hR1 _ _ ⟨rfl, rfl⟩
  rintro _ _ ⟨rfl, rfl⟩
  refine ZE (fun ρ' O' => ρ' = [some (.own x), some (.own d), some (.d (.list [.str "wide", .str "high", .str "row", .str "column", .str "ink", .str "top", .str "bottom", .str "left", .str "right"])), some (.d (.list ([(S.w : Int), S.h, S.row, S.col, S.ink, S.top, S.bottom, S.left, S.right].map .int)))] ∧ O = O') (fun R1 hR1 => ?_) ?_
  · walk_at "wd"
    simp [hx, yP, yS, and_assoc, zh, T.st.cl, T.st.n_picture, T.st.n_wide, T.st.n_high, T.st.n_row, T.st.n_column, T.st.n_late, T.st.n_ink, T.st.n_wrap, T.st.n_putting, T.st.n_home, T.st.n_top, T.st.n_bottom, T.st.n_left, T.st.n_right, T.st.n_stops, T.st.n_kept, T.st.n_last, zv, z7, z9, yu, zy, ya, yv, yb, zw, yc, yw, zz, yd, zG, zH, ye, yf, yx, zA, yg, yy, yh, zx, yi, yz, zB, yj, zI, yk]
    exact hR1 _ _ ⟨rfl, rfl⟩
  rintro _ _ ⟨rfl, rfl⟩
  have lL : SeqAt.shaped (.list ([(S.w : Int), S.h, S.row, S.col, S.ink, S.top, S.bottom, S.left, S.right].map .int)) = true := qm _
  have eL : PyData.eqv (.list ([(S.w : Int), S.h, S.row, S.col, S.ink, S.top, S.bottom, S.left, S.right].map .int)) (.list ([(S.w : Int), S.h, S.row, S.col, S.ink, S.top, S.bottom, S.left, S.right].map .int)) = true := XS _
  have fL : List.filterMap (Qi q S) ([.str "wide", .str "high", .str "row", .str "column", .str "ink", .str "top", .str "bottom", .str "left", .str "right"].map W.d) = [(S.w : Int), S.h, S.row, S.col, S.ink, S.top, S.bottom, S.left, S.right].map .int := rfl
  have mL : ∀ v ∈ [(S.w : Int), S.h, S.row, S.col, S.ink, S.top, S.bottom, S.left, S.right].map PyData.int, ∃ n, v = .int n := fun v hv => by obtain ⟨n, _, e⟩ := List.mem_map.1 hv; exact ⟨n, e.symm⟩
  have nL : ([(S.w : Int), S.h, S.row, S.col, S.ink, S.top, S.bottom, S.left, S.right].map PyData.int).length ≤ 1000 := by show (9 : Nat) ≤ 1000; decide
  generalize ([(S.w : Int), S.h, S.row, S.col, S.ink, S.top, S.bottom, S.left, S.right].map PyData.int) = L at lL eL fL mL nL ⊢
  refine yt (fun ρ' O' => ρ' = [some (.own x), some (.own d), some (.d (.list [.str "wide", .str "high", .str "row", .str "column", .str "ink", .str "top", .str "bottom", .str "left", .str "right"])), some (.d (.list L))] ∧ O = O') (fun R1 hR1 => ?_) ?_
  · walk_at "wd"
    refine ⟨_, rfl, by show (9 : Nat) ≤ 1000; decide, Qi q S, fun v hv us hu => ⟨hu, ?_, ?_⟩, _, rfl, _, rfl, lL, ?_⟩
    · obtain ⟨u, rfl⟩ := List.length_eq_one_iff.1 hu
      rfl
    · obtain ⟨u, rfl⟩ := List.length_eq_one_iff.1 hu
      simp only [List.map_cons, List.map_nil, List.mem_cons, List.not_mem_nil, or_false] at hv
      rcases hv with rfl | rfl | rfl | rfl | rfl | rfl | rfl | rfl | rfl <;> exact Exists.intro _ ⟨hd, _, rfl, rfl⟩
    · rw [fL, if_pos eL]
      exact ⟨lL, hR1 _ _ ⟨rfl, rfl⟩⟩
  rintro _ _ ⟨rfl, rfl⟩
  refine yt (fun ρ' O' => ρ' = [some (.own x), some (.own d), some (.d (.list [.str "wide", .str "high", .str "row", .str "column", .str "ink", .str "top", .str "bottom", .str "left", .str "right"])), some (.d (.list L))] ∧ O = O') (fun R1 hR1 => ?_) ?_
  · walk_at "wd"
    refine ⟨_, rfl, by simpa [yS] using nL, fun _ => none, fun v hv us hu => ⟨hu, ?_, ?_⟩, ?_⟩
    · obtain ⟨u, rfl⟩ := List.length_eq_one_iff.1 hu
      rfl
    · obtain ⟨u, rfl⟩ := List.length_eq_one_iff.1 hu
      obtain ⟨y, hy, rfl⟩ := List.mem_map.1 hv
      obtain ⟨n, rfl⟩ := mL y hy
      show ∃ d, _
      exact ⟨_, rfl, _, rfl, .inl ⟨rfl, rfl⟩⟩
    · rw [zaH]
      exact ⟨_, rfl, _, rfl, rfl, rfl, by rw [if_pos (show PyData.eqv (.list []) (.list []) = true from rfl)]; exact hR1 _ _ ⟨rfl, rfl⟩⟩
  rintro _ _ ⟨rfl, rfl⟩
  refine yt (fun ρ' O' => ρ' = [some (.own x), some (.own d), some (.d (.list [.str "late", .str "wrap", .str "putting", .str "home"])), some (.d (.list L))] ∧ O = O') (fun R1 hR1 => ?_) ?_
  · walk_at "wd"
    exact hR1 _ _ ⟨rfl, rfl⟩
  rintro _ _ ⟨rfl, rfl⟩
  refine yt (fun ρ' O' => ρ' = [some (.own x), some (.own d), some (.d (.list [.str "late", .str "wrap", .str "putting", .str "home"])), some (.d (.list [.bool S.late, .bool S.wrap, .bool S.putting, .bool S.home]))] ∧ O = O') (fun R1 hR1 => ?_) ?_
  · walk_at "wd"
    simp [hx, yP, and_assoc, zh, T.st.cl, T.st.n_picture, T.st.n_wide, T.st.n_high, T.st.n_row, T.st.n_column, T.st.n_late, T.st.n_ink, T.st.n_wrap, T.st.n_putting, T.st.n_home, T.st.n_top, T.st.n_bottom, T.st.n_left, T.st.n_right, T.st.n_stops, T.st.n_kept, T.st.n_last, zv, z7, z9, yu, zy, ya, yv, yb, zw, yc, yw, zz, yd, zG, zH, ye, yf, yx, zA, yg, yy, yh, zx, yi, yz, zB, yj, zI, yk]
    exact hR1 _ _ ⟨rfl, rfl⟩
  rintro _ _ ⟨rfl, rfl⟩
  refine yt (fun ρ' O' => ρ' = [some (.own x), some (.own d), some (.d (.list [.str "late", .str "wrap", .str "putting", .str "home"])), some (.d (.list [.bool S.late, .bool S.wrap, .bool S.putting, .bool S.home]))] ∧ O = O') (fun R1 hR1 => ?_) ?_
  · walk_at "wd"
    refine ⟨_, rfl, by show (4 : Nat) ≤ 1000; decide, fun _ => none, fun v hv us hu => ⟨hu, ?_, ?_⟩, ?_⟩
    · obtain ⟨u, rfl⟩ := List.length_eq_one_iff.1 hu
      rfl
    · obtain ⟨u, rfl⟩ := List.length_eq_one_iff.1 hu
      have hv : ∃ b, v = W.d (.bool b) := by
        simp only [List.map_cons, List.map_nil, List.mem_cons, List.not_mem_nil, or_false] at hv
        rcases hv with rfl | rfl | rfl | rfl <;> exact ⟨_, rfl⟩
      obtain ⟨b, rfl⟩ := hv
      cases b
      · exact rfl
      · exact rfl
    · rw [zaH]
      exact ⟨_, rfl, _, rfl, rfl, rfl, by rw [if_pos (show PyData.eqv (.list []) (.list []) = true from rfl)]; exact hR1 _ _ ⟨rfl, rfl⟩⟩
  rintro _ _ ⟨rfl, rfl⟩
  refine yt (fun ρ' O' => ρ' = [some (.own x), some (.own d), some (.d (.list [.str "late", .str "wrap", .str "putting", .str "home"])), some (.d (.list [.bool S.late, .bool S.wrap, .bool S.putting, .bool S.home]))] ∧ O = O') (fun R1 hR1 => ?_) ?_
  · walk_at "wd"
    refine ⟨_, rfl, by show (4 : Nat) ≤ 1000; decide, Qi q S, fun v hv us hu => ⟨hu, ?_, ?_⟩, _, rfl, _, rfl, ?_⟩
    · obtain ⟨u, rfl⟩ := List.length_eq_one_iff.1 hu
      rfl
    · obtain ⟨u, rfl⟩ := List.length_eq_one_iff.1 hu
      simp only [List.map_cons, List.map_nil, List.mem_cons, List.not_mem_nil, or_false] at hv
      rcases hv with rfl | rfl | rfl | rfl <;> exact Exists.intro _ ⟨hd, _, rfl, rfl⟩
    · have fB : List.filterMap (Qi q S) ([.str "late", .str "wrap", .str "putting", .str "home"].map W.d) = [.bool S.late, .bool S.wrap, .bool S.putting, .bool S.home] := rfl
      rw [fB]
      rw [if_pos (by simp [PyData.eqv, PyData.eqvAll])]
      refine ⟨rfl, rfl, ?_⟩
      simp [hx, hd, vv, hP.2.1, hP.2.2, and_assoc, zh, T.st.cl, T.st.n_picture, T.st.n_wide, T.st.n_high, T.st.n_row, T.st.n_column, T.st.n_late, T.st.n_ink, T.st.n_wrap, T.st.n_putting, T.st.n_home, T.st.n_top, T.st.n_bottom, T.st.n_left, T.st.n_right, T.st.n_stops, T.st.n_kept, T.st.n_last, zv, z7, z9, yu, zy, ya, yv, yb, zw, yc, yw, zz, yd, zG, zH, ye, yf, yx, zA, yg, yy, yh, zx, yi, yz, zB, yj, zI, yk, and_assoc, zh, zK, zL, yl, zM, zC, zq, zD, zN, zo, zO, zP, zQ, ym, yn, zr, yo, zt, zR, yp, zS, zp, zT, yq, zu, zU, zE, zV, zF]
      exact hR1 _ _ ⟨rfl, rfl⟩
  rintro _ _ ⟨rfl, rfl⟩
  refine yt (fun ρ' O' => ρ' = [some (.own x), some (.own d), some (.d (.list [.str "late", .str "wrap", .str "putting", .str "home"])), some (.d (.list [.bool S.late, .bool S.wrap, .bool S.putting, .bool S.home]))] ∧ O = O') (fun R1 hR1 => ?_) ?_
  · walk_at "wd"
    have g1 := Vw hP.1
    have g2 := KP (h := S.h) (w := S.w) (f := S.pic)
    have e1 : vv O (.own p) = some (.list ((genG S.h S.w S.pic).map PyData.list)) := by simp [vv, hb.s.p]
    have e2 : vv O (.own q) = some (.list ((genG S.h S.w S.pic).map PyData.list)) := by simp [vv, hb.o.q]
    have e3 : vv O (.own kp) = some (.list []) := by simp [vv, yP, hb.s.kp]
    have e4 : vv O (.d (.list [])) = some (.list []) := rfl
    have e5 : SeqAt.shaped (.list []) = true := rfl
    have e6 : PyData.eqv (.list []) (.list []) = true := rfl
    simp [hx, hd, e1, e2, e3, e4, e5, e6, g1, g2, and_assoc, zh, T.st.cl, T.st.n_picture, T.st.n_wide, T.st.n_high, T.st.n_row, T.st.n_column, T.st.n_late, T.st.n_ink, T.st.n_wrap, T.st.n_putting, T.st.n_home, T.st.n_top, T.st.n_bottom, T.st.n_left, T.st.n_right, T.st.n_stops, T.st.n_kept, T.st.n_last, zv, z7, z9, yu, zy, ya, yv, yb, zw, yc, yw, zz, yd, zG, zH, ye, yf, yx, zA, yg, yy, yh, zx, yi, yz, zB, yj, zI, yk, and_assoc, zh, zK, zL, yl, zM, zC, zq, zD, zN, zo, zO, zP, zQ, ym, yn, zr, yo, zt, zR, yp, zS, zp, zT, yq, zu, zU, zE, zV, zF]
    exact hR1 _ _ ⟨rfl, rfl⟩
  rintro _ _ ⟨rfl, rfl⟩
  have hst := hb.s.st
  walk_at "wd"
  simp [hx, hd, hst, and_assoc, zh, T.st.cl, T.st.n_picture, T.st.n_wide, T.st.n_high, T.st.n_row, T.st.n_column, T.st.n_late, T.st.n_ink, T.st.n_wrap, T.st.n_putting, T.st.n_home, T.st.n_top, T.st.n_bottom, T.st.n_left, T.st.n_right, T.st.n_stops, T.st.n_kept, T.st.n_last, zv, z7, z9, yu, zy, ya, yv, yb, zw, yc, yw, zz, yd, zG, zH, ye, yf, yx, zA, yg, yy, yh, zx, yi, yz, zB, yj, zI, yk, and_assoc, zh, zK, zL, yl, zM, zC, zq, zD, zN, zo, zO, zP, zQ, ym, yn, zr, yo, zt, zR, yp, zS, zp, zT, yq, zu, zU, zE, zV, zF]
  have w2 := hB.w2
  have ln : (List.map (fun i : Nat => (4 + (i : Int) * 4)) (List.range ((S.w - 1) / 4))).length < 64 := by simp; omega
  refine ⟨List.map (fun i : Nat => (4 + (i : Int) * 4)) (List.range ((S.w - 1) / 4)), by rw [List.map_map]; rfl, ln, List.map (fun i : Nat => (4 + (i : Int) * 4)) (List.range ((S.w - 1) / 4)), ?_, ln, _, r3w hB.w1 hB.w2, by omega, _, rfl, _, rfl, qm _, ?_⟩
  · show some (List.map W.d (List.map PyData.int _)) = _
    rw [List.map_map]
  rw [Jr]
  have e : List.map (fun k : Nat => PyData.int (4 + (k : Int) * 4)) (List.range ((S.w - 1) / 4)) = List.map PyData.int (List.map (fun i : Nat => (4 + (i : Int) * 4)) (List.range ((S.w - 1) / 4))) := by rw [List.map_map]; rfl
  rw [e, XS]
  exact ⟨qm _, .inl h⟩
end
section
variable {P : Program} {w : World} {K : PySem.W.Frag} {mg : Str → Option Value} {base : Heap} {f C : Addr} {fd : FuncData}
theorem kY (F : Fun K "_law_from_rows" "_law_from_rows" vw f fd) (T : Txt K mg C) : FnOk P w K mg base CX0 1 f fd ["_law_own", "_law_first", "_law_down", "_law_row", "_law_column"] (zb K jN) := by
  have nd := uk.nd
  apply F.okV uk (by rintro _ _ _ ⟨d, q, S, a, dn, r, c, rfl, _⟩; rfl) (fun cdv A outer sh H E hr => (za (zZ (i := 5) nd rfl (Or.inl rfl) (uC yN yN (zf (zk hr) (pv 0) zd (fun _ _ => rfl)) (pv 4) (zf (zk hr) (pv 0) zd (fun _ _ => rfl))))
      (za (yA (PW.pt (qS (vX (xj (pv 5))) (uB (vX (xC yN yN (pv 1) (pv 3) (zf (zk hr) (pv 0) zd (fun _ _ => rfl))))))) (ze (zY (yD (qc (pv 3) (qc (pv 4) qn))))) z0)
      (za (yA (xC yN yN (pv 1) (zg yC (pv 3) (pv 2)) (zf (zk hr) (pv 0) zd (fun _ _ => rfl))) (ze (zY (yD (qc (zg yC (pv 3) (pv 2)) (qc (pv 4) qn))))) z0)
      (ze (zY yZ))))))
  · walk_at "ref"
  rintro _ O R ⟨d, q, S, a, dn, r, c, rfl, hd, hB, a0, hr1, hc1, h⟩
  refine yt (fun ρ' O' => ρ' = [some (.own d), some (.d (.int a)), some (.d (.int dn)), some (.d (.int r)), some (.d (.int c)), some (.d (.bool (decide (S.left ≤ c ∧ (c : Int) ≤ S.right))))] ∧ O = O') (fun R1 hR1 => ?_) ?_
  · walk_at "wd"
    simp [hd, and_assoc, zh, zK, zL, yl, zM, zC, zq, zD, zN, zo, zO, zP, zQ, ym, yn, zr, yo, zt, zR, yp, zS, zp, zT, yq, zu, zU, zE, zV, zF]
    by_cases e1 : S.left ≤ c <;> by_cases e2 : (c : Int) ≤ S.right <;> simp [e1, e2] at hR1 ⊢ <;> exact hR1
  rintro _ _ ⟨rfl, rfl⟩
  have b1 := hB.b1
  have f1 : ¬ (S.left ≤ c ∧ (c : Int) ≤ S.right ∧ a ≤ r ∧ (r : Int) ≤ S.bottom) → Frm S (mvP S.pic S.ink a S.bottom S.left S.right dn 0 r c) (.tuple [.int r, .int c]) := fun e => by
    rw [xO (fun z => e ⟨z.2.2.1, z.2.2.2, z.1, z.2.1⟩)]
    exact Frm.here hr1 hc1
  have f2 : (S.left ≤ c ∧ (c : Int) ≤ S.right ∧ a ≤ r ∧ (r : Int) ≤ S.bottom) → (a ≤ r + dn ∧ r + dn ≤ S.bottom) → Frm S (mvP S.pic S.ink a S.bottom S.left S.right dn 0 r c) (.tuple [.int (r + dn), .int c]) := fun e e3 =>
    .inr ⟨r + dn, c, rfl, by omega, by omega, by omega, by omega, by unfold mvP; rw [if_pos ⟨e.2.2.1, e.2.2.2, e.1, e.2.1⟩, if_pos (by omega)]; first | rfl | (congr 1; done) | (congr 1; omega)⟩
  have f3 : (S.left ≤ c ∧ (c : Int) ≤ S.right ∧ a ≤ r ∧ (r : Int) ≤ S.bottom) → ¬ (a ≤ r + dn ∧ r + dn ≤ S.bottom) → Frm S (mvP S.pic S.ink a S.bottom S.left S.right dn 0 r c) .none := fun e e3 =>
    .inl ⟨rfl, by unfold mvP; rw [if_pos ⟨e.2.2.1, e.2.2.2, e.1, e.2.1⟩, if_neg (by omega)]⟩
  walk_at "wd"
  simp [hd, and_assoc, zh, zK, zL, yl, zM, zC, zq, zD, zN, zo, zO, zP, zQ, ym, yn, zr, yo, zt, zR, yp, zS, zp, zT, yq, zu, zU, zE, zV, zF]
  repeat' split
  all_goals exact .inl (h _ (by first | exact f2 (by omega) (by omega) | exact f3 (by omega) (by omega) | exact f1 (by omega)))
theorem ku (F : Fun K "_law_from_cells" "_law_from_cells" vj f fd) (T : Txt K mg C) (zfX : Cal P w K mg base 1 "_law_right_edge" [] (zb K qL)) : FnOk P w K mg base CX0 2 f fd ["_law_own", "_law_across", "_law_row", "_law_column"] (zb K XO) := by
  have nd := ud.nd
  apply F.okV ud (by rintro _ _ _ ⟨d, q, S, a, r, c, rfl, _⟩; rfl) (fun cdv A outer sh H E hr => (za (zZ (i := 4) nd rfl (Or.inl rfl) (zj zfX (hr.mono (by decide)) rfl (QA.pa (qc (pv 0) qn))))
      (za (yA (PW.pt (qS (zW K2 (pv 2) (zf (zk hr) (pv 0) zd (fun _ _ => rfl)) (zJ _)) (uB (vX (xC yN yN (zf (zk hr) (pv 0) zd (fun _ _ => rfl)) (pv 3) (pv 4)))))) (ze (zY (yD (qc (pv 2) (qc (pv 3) qn))))) z0)
      (za (yA (xC yN yN (zf (zk hr) (pv 0) zd (fun _ _ => rfl)) (zg yC (pv 3) (pv 1)) (pv 4)) (ze (zY (yD (qc (pv 2) (qc (zg yC (pv 3) (pv 1)) qn))))) z0)
      (ze (zY yZ))))))
  · walk_at "ref"
  rintro _ O R ⟨d, q, S, a, r, c, rfl, hd, hB, hr1, hc1, h⟩
  refine yt (fun ρ' O' => ρ' = [some (.own d), some (.d (.int a)), some (.d (.int r)), some (.d (.int c)), some (.d (.int (eR S)))] ∧ O = O') (fun R1 hR1 => ?_) ?_
  · walk_at "wd"
    exact ⟨d, q, S, rfl, hd, hR1 _ _ ⟨rfl, rfl⟩⟩
  rintro _ _ ⟨rfl, rfl⟩
  have e := qe hB
  have c0 := hB.c0
  have f1 : ¬ ((r : Int) = S.row ∧ S.col ≤ c ∧ (c : Int) ≤ eR S) → Frm S (mvP S.pic S.ink S.row S.row S.col (eR S) 0 a r c) (.tuple [.int r, .int c]) := fun e => by
    rw [xO (fun z => e ⟨by omega, z.2.2.1, z.2.2.2⟩)]
    exact Frm.here hr1 hc1
  have f2 : ((r : Int) = S.row ∧ S.col ≤ c ∧ (c : Int) ≤ eR S) → (S.col ≤ c + a ∧ c + a ≤ eR S) → Frm S (mvP S.pic S.ink S.row S.row S.col (eR S) 0 a r c) (.tuple [.int r, .int (c + a)]) := fun e2 e3 =>
    .inr ⟨r, c + a, rfl, by omega, by omega, by omega, by omega, by unfold mvP; rw [if_pos ⟨by omega, by omega, e2.2.1, e2.2.2⟩, if_pos (by omega)]; first | rfl | (congr 1; done) | (congr 1; omega)⟩
  have f3 : ((r : Int) = S.row ∧ S.col ≤ c ∧ (c : Int) ≤ eR S) → ¬ (S.col ≤ c + a ∧ c + a ≤ eR S) → Frm S (mvP S.pic S.ink S.row S.row S.col (eR S) 0 a r c) .none := fun e2 e3 =>
    .inl ⟨rfl, by unfold mvP; rw [if_pos ⟨by omega, by omega, e2.2.1, e2.2.2⟩, if_neg (by omega)]⟩
  walk_at "wd"
  simp [hd, and_assoc, zh, zK, zL, yl, zM, zC, zq, zD, zN, zo, zO, zP, zQ, ym, yn, zr, yo, zt, zR, yp, zS, zp, zT, yq, zu, zU, zE, zV, zF]
  repeat' split
  all_goals exact .inl (h _ (by first | exact f2 (by omega) (by omega) | exact f3 (by omega) (by omega) | exact f1 (by omega)))
end
section
variable {P : Program} {w : World} {K : PySem.W.Frag} {mg : Str → Option Value} {base : Heap} {f C : Addr} {fd : FuncData}
theorem kz (F : Fun K "_law_from_wiped" "_law_from_wiped" vk f fd) (T : Txt K mg C) : FnOk P w K mg base CX0 1 f fd ["_law_own", "_law_way", "_law_row", "_law_column"] (zb K XQ) := by
  have nd := ue.nd
  apply F.okV ue (by rintro _ _ _ ⟨d, q, S, y, r, c, rfl, _⟩; rfl) (fun cdv A outer sh H E hr => (za (zZ (i := 4) nd rfl (Or.inl rfl) (zg yC (zg xB (zf (zk hr) (pv 0) zd (fun _ _ => rfl)) (zf (zk hr) (pv 0) zd (fun _ _ => rfl))) (zf (zk hr) (pv 0) zd (fun _ _ => rfl))))
      (za (zZ (i := 5) nd rfl (Or.inl rfl) (zg yC (zg xB (pv 2) (zf (zk hr) (pv 0) zd (fun _ _ => rfl))) (pv 3)))
      (za (yA (PW.pt (k7 (zW qT (pv 1) zc (zJ _)) (j9 (zW K2 (pv 2) (zf (zk hr) (pv 0) zd (fun _ _ => rfl)) (zJ _))))) (ze (zY (yD (qc (pv 2) (qc (pv 3) qn))))) z0)
      (za (zZ (i := 6) nd rfl (Or.inl rfl) (uw (yR zc (xi Zc (pv 5) (pv 4) (zJ _)) (yR zc (xi yN (pv 5) (pv 4) (zJ _)) (yR zc yW uv))) rfl rfl (by decide) (by decide)))
      (za (yr (uc (K := K) rfl PySem.F.plainAttrs_dict PySem.F.slot_dict_update PySem.F.type_dict_update jD (pv 6) (QA.pa (qc (uw (yR zc (xi Zc (pv 5) (pv 4) (zJ _)) (yR zc (xi yN (pv 5) (pv 4) (zJ _)) (yR zc yW uv))) rfl rfl (by decide) (by decide)) qn))))
      (ze (zY (xg (Yt (K := K) rfl (Xk (zk hr) (pv 6) (pv 1) yW ⟨rfl, rfl, rfl, rfl⟩) (fun _ => rfl)) yZ (yD (qc (pv 2) (qc (pv 3) qn))))))))))))
  · walk_at "ref"
  rintro _ O R ⟨d, q, S, y, r, c, rfl, hd, hB, hr1, hc1, y0, h⟩
  obtain ⟨q0, q1, q2⟩ := Qe hB
  have w1 := hB.w1
  have w2 := hB.w2
  have h2 := hB.h2
  have c0 := hB.c0
  have c1 := hB.c1
  have r0 := hB.r0
  have r1 := hB.r1
  obtain ⟨p0, p1⟩ := XN hr1 hc1
  have ra := Jq hB (n := (r : Int) * S.w + c)
  have rd : ((r : Int) * S.w + c) / (S.w : Int) = r := by
    rw [Int.add_comm, Int.add_mul_ediv_right _ _ (by omega), Int.ediv_eq_zero_of_lt (by omega) (by omega)]
    omega
  rw [rd] at ra
  refine ZI (fun ρ' O' => ρ' = [some (.own d), some (.d (.int y)), some (.d (.int r)), some (.d (.int c)), some (.d (.int (S.row * S.w + S.col))), some (.d (.int (r * S.w + c))), none] ∧ O = O') (fun R1 hR1 => ?_) ?_
  · walk_at "wd"
    simp [hd, and_assoc, zh, zK, zL, yl, zM, zC, zq, zD, zN, zo, zO, zP, zQ, ym, yn, zr, yo, zt, zR, yp, zS, zp, zT, yq, zu, zU, zE, zV, zF]
    exact ⟨mulL (by omega) (by omega), mulL (by omega) (by omega), hR1 _ _ ⟨rfl, rfl⟩⟩
  rintro _ _ ⟨rfl, rfl⟩
  generalize hn : (r : Int) * S.w + c = n at *
  refine yt (fun ρ' O' => (y < 3 → (r : Int) = S.row) ∧ ρ' = [some (.own d), some (.d (.int y)), some (.d (.int r)), some (.d (.int c)), some (.d (.int (S.row * S.w + S.col))), some (.d (.int n)), none] ∧ O = O') (fun R1 hR1 => ?_) ?_
  · by_cases e1 : y < 3
    · by_cases e2 : (r : Int) = S.row
      · walk_at "wd"
        simp [hd, e1, e2, and_assoc, zh, zK, zL, yl, zM, zC, zq, zD, zN, zo, zO, zP, zQ, ym, yn, zr, yo, zt, zR, yp, zS, zp, zT, yq, zu, zU, zE, zV, zF]
        have z := hR1 _ _ ⟨fun _ => e2, rfl, rfl⟩
        rw [e2] at z
        exact z
      · have z := h (.tuple [.int r, .int c]) O Old.refl (by
          have nin : ¬ ((spI y S).1 ≤ n ∧ n < (spI y S).2) := fun z => e2 (ra.2 (by
            have ey : y = 0 ∨ y = 1 ∨ y = 2 := by omega
            rcases ey with rfl | rfl | rfl <;> simp [spI] at z <;> omega))
          have := Yb (S := S) (a := (spI y S).1) (b := (spI y S).2) (u := false) hr1 hc1 (by rw [hn]; simpa using nin)
          simpa using this)
        walk_at "wd"
        simp [hd, e1, e2, and_assoc, zh, zK, zL, yl, zM, zC, zq, zD, zN, zo, zO, zP, zQ, ym, yn, zr, yo, zt, zR, yp, zS, zp, zT, yq, zu, zU, zE, zV, zF]
        exact .inl z
    · walk_at "wd"
      simp [hd, e1, and_assoc, zh, zK, zL, yl, zM, zC, zq, zD, zN, zo, zO, zP, zQ, ym, yn, zr, yo, zt, zR, yp, zS, zp, zT, yq, zu, zU, zE, zV, zF]
      exact hR1 _ _ ⟨fun z => absurd z e1, rfl, rfl⟩
  rintro _ _ ⟨hrow, rfl, rfl⟩
  refine yt (fun ρ' O' => ∃ b be ah, O b = none ∧ (be = true ↔ S.row * (S.w : Int) + S.col ≤ n) ∧ (ah = true ↔ n ≤ S.row * (S.w : Int) + S.col) ∧ ρ' = [some (.own d), some (.d (.int y)), some (.d (.int r)), some (.d (.int c)), some (.d (.int (S.row * S.w + S.col))), some (.d (.int n)), some (.own b)] ∧ O' = updO O b (.dK [(Sum.inl 0, .d (.bool be)), (Sum.inl 1, .d (.bool ah)), (Sum.inl 2, .d (.bool true))])) (fun R1 hR1 => ?_) ?_
  · walk_at "wd"
    intro b hb
    exact ⟨_, rfl, by show (3 : Nat) ≤ 15; decide, hR1 _ _ ⟨b, decide (S.row * (S.w : Int) + S.col ≤ n), decide (n ≤ S.row * (S.w : Int) + S.col), hb, decide_eq_true_iff, decide_eq_true_iff, rfl, rfl⟩⟩
  rintro _ O1 ⟨b, be, ah, hb, hbe, hah, rfl, rfl⟩
  refine yt (fun ρ' O' => ∃ be2 ah2, (be2 = true ↔ S.row * (S.w : Int) + S.col ≤ n) ∧ (ah2 = true ↔ n ≤ S.row * (S.w : Int) + S.col) ∧ ρ' = [some (.own d), some (.d (.int y)), some (.d (.int r)), some (.d (.int c)), some (.d (.int (S.row * S.w + S.col))), some (.d (.int n)), some (.own b)] ∧ Old O O' ∧ O' b = some (.dK [(Sum.inl 0, .d (.bool be)), (Sum.inl 1, .d (.bool ah)), (Sum.inl 2, .d (.bool true)), (Sum.inl 3, .d (.bool be2)), (Sum.inl 4, .d (.bool ah2)), (Sum.inl 5, .d (.bool true))])) (fun R1 hR1 => ?_) ?_
  · walk_at "wd"
    refine ⟨.inr (.inr ⟨rfl, b, _, rfl, zn⟩), fun e he => ?_⟩
    have hbe' : b ≠ e := neO zn he
    refine ⟨_, rfl, by show (3 : Nat) ≤ 15; decide, ?_⟩
    simp [zi hbe', zn, hbe']
    have he2 : O e = none := by rw [zi (Ne.symm hbe')] at he; exact he
    exact ⟨by show (6 : Nat) ≤ 1000; decide, hR1 _ _ ⟨decide (S.row * (S.w : Int) + S.col ≤ n), decide (n ≤ S.row * (S.w : Int) + S.col), decide_eq_true_iff, decide_eq_true_iff, rfl, ((Old.refl.upd hb).upd he2).upd hb, by rw [zn]; rfl⟩⟩
  rintro _ O2 ⟨be2, ah2, hbe2, hah2, rfl, o2, hb2⟩
  have key : ((if y = 0 then be else if y = 1 then ah else if y = 2 then true else if y = 3 then be2 else if y = 4 then ah2 else if y = 5 then true else false) = true) ↔ ((spI y S).1 ≤ n ∧ n < (spI y S).2) := by
    by_cases e1 : y < 3
    · have e2 := ra.1 (hrow e1)
      exact YA hB p0 p1 (by rw [hbe]; omega) (by rw [hah]; omega) (by simp only [true_iff]; exact e2) hbe2 hah2
    · have n0 : ¬ y = 0 := by omega
      have n1 : ¬ y = 1 := by omega
      have n2 : ¬ y = 2 := by omega
      have := YA (y := y) (v0 := decide (S.row * (S.w : Int) + S.col ≤ n ∧ n < S.row * (S.w : Int) + S.w)) (v1 := decide (S.row * (S.w : Int) ≤ n ∧ n ≤ S.row * (S.w : Int) + S.col)) (v2 := decide (S.row * (S.w : Int) ≤ n ∧ n < S.row * (S.w : Int) + S.w)) hB p0 p1 decide_eq_true_iff decide_eq_true_iff decide_eq_true_iff hbe2 hah2
      rw [if_neg n0, if_neg n1, if_neg n2] at this ⊢
      exact this
  have fr := Yb (S := S) hr1 hc1 (by rw [hn]; exact key)
  generalize hu : (if y = 0 then be else if y = 1 then ah else if y = 2 then true else if y = 3 then be2 else if y = 4 then ah2 else if y = 5 then true else false) = u at fr
  have sg := zbI (v0 := be) (v1 := ah) (v2 := true) (v3 := be2) (v4 := ah2) (v5 := true) (y := y)
  rw [hu] at sg
  have z := h _ O2 o2 fr
  walk_at "wd"
  simp [hb2, sg]
  cases u with
  | true => exact .inr ⟨rfl, .inl z⟩
  | false => exact .inl ⟨rfl, .inl z⟩
theorem VN (F : Fun K "_law_from" "_law_from" qA f fd) (T : Txt K mg C) (zf1 : Cal P w K mg base 1 "_law_times" [] (zb K Zw)) (zfN : Cal P w K mg base 1 "_law_from_rows" [] (zb K jN)) (zfM : Cal P w K mg base 2 "_law_from_cells" [] (zb K XO)) (zfO : Cal P w K mg base 1 "_law_from_wiped" [] (zb K XQ)) : FnOk P w K mg base CX0 3 f fd ["_law_own", "_law_letter", "_law_many", "_law_row", "_law_column"] (zb K Qg) := by
  have nd := jY.nd
  apply F.okV jY (by rintro _ _ _ ⟨d, q, S, m, l, r, c, rfl, _⟩; rfl) (fun cdv A outer sh H E hr => (za (zZ (i := 5) nd rfl (Or.inl rfl) (zj zf1 (hr.mono (by decide)) rfl (QA.pa (qc (pv 2) qn))))
      (za (yA (zW vZ (pv 1) zd (by with_unfolding_all rfl)) (ze (zZ (i := 5) nd rfl (Or.inl rfl) (zg y6 zc (pv 5)))) z0)
      (za (yA (zW vZ (pv 1) zd (by with_unfolding_all rfl)) (ze (zY (zj zfN (hr.mono (by decide)) rfl (QA.pa (qc (pv 0) (qc (zf (zk hr) (pv 0) zd (fun _ _ => rfl)) (qc (pv 5) (qc (pv 3) (qc (pv 4) qn))))))))) z0)
      (za (yA (zW vZ (pv 1) zd (by with_unfolding_all rfl)) (za (yA (vX (xC yN yN (zf (zk hr) (pv 0) zd (fun _ _ => rfl)) (zf (zk hr) (pv 0) zd (fun _ _ => rfl)) (zf (zk hr) (pv 0) zd (fun _ _ => rfl)))) (ze (zY (yD (qc (pv 3) (qc (pv 4) qn))))) z0)
      (ze (zY (zj zfN (hr.mono (by decide)) rfl (QA.pa (qc (pv 0) (qc (zf (zk hr) (pv 0) zd (fun _ _ => rfl)) (qc (pv 5) (qc (pv 3) (qc (pv 4) qn)))))))))) z0)
      (za (yA (zW vZ (pv 1) zd (by with_unfolding_all rfl)) (ze (zY (zj zfM (hr.mono (by decide)) rfl (QA.pa (qc (pv 0) (qc (pv 5) (qc (pv 3) (qc (pv 4) qn)))))))) z0)
      (za (yA (zW yX (pv 1) zd (zJ _)) (za (zZ (i := 6) nd rfl (Or.inl rfl) (zf (zk hr) (pv 0) zd (fun _ _ => rfl)))
      (za (zZ (i := 7) nd rfl (Or.inl rfl) (jv (xi yX (pv 3) (zf (zk hr) (pv 0) zd (fun _ _ => rfl)) (zJ _)) (k8 (uC yN qT (pv 6) (pv 4) (zg yC (pv 6) (pv 5))))))
      (ze (zY (xg (xj (pv 7)) yZ (yD (qc (pv 3) (qc (pv 4) qn)))))))) z0)
      (ze (zY (zj zfO (hr.mono (by decide)) rfl (QA.pa (qc (pv 0) (qc (xg (zW vB (pv 2) yZ (zJ _)) zc (pv 2)) (qc (pv 3) (qc (pv 4) qn)))))))))))))))
  · walk_at "ref"
  rintro _ O R ⟨d, q, S, m, l, r, c, rfl, hd, hm, hB, hr1, hc1, h⟩
  refine ZI (fun ρ' O' => ρ' = [some (.own d), some (.d (.str l.str)), some (.d m), some (.d (.int r)), some (.d (.int c)), some (.d (.int (match l with | .D => -(yJ m) | .i => -(yJ m) | .s => -(yJ m) | _ => yJ m))), none, none] ∧ O = O') (fun R1 hR1 => ?_) ?_
  · walk_at "wd"
    simp only [Kz hm, Lt.inDis]
    refine ⟨hm, ?_⟩
    cases l <;> simp <;> exact hR1 _ _ ⟨rfl, rfl⟩
  rintro _ _ ⟨rfl, rfl⟩
  have t0 := hB.t0
  have r0 := hB.r0
  have r1 := hB.r1
  have c0 := hB.c0
  have c1 := hB.c1
  have o1 := vK (n := m)
  have w1 := hB.w1
  cases l with
  | R =>
    walk_at "wd"
    simp [Lt.inRD, hd, and_assoc, zh, zK, zL, yl, zM, zC, zq, zD, zN, zo, zO, zP, zQ, ym, yn, zr, yo, zt, zR, yp, zS, zp, zT, yq, zu, zU, zE, zV, zF]
    exact ⟨d, q, S, _, _, r, c, rfl, hd, hB, t0, hr1, hc1, fun z hz => .inl (h z O Old.refl hz)⟩
  | D =>
    walk_at "wd"
    simp [Lt.inRD, hd, and_assoc, zh, zK, zL, yl, zM, zC, zq, zD, zN, zo, zO, zP, zQ, ym, yn, zr, yo, zt, zR, yp, zS, zp, zT, yq, zu, zU, zE, zV, zF]
    exact ⟨d, q, S, _, _, r, c, rfl, hd, hB, t0, hr1, hc1, fun z hz => .inl (h z O Old.refl hz)⟩
  | i =>
    simp only [vD] at h
    walk_at "wd"
    simp [Lt.inRD, Lt.inIk, hd, and_assoc, zh, zK, zL, yl, zM, zC, zq, zD, zN, zo, zO, zP, zQ, ym, yn, zr, yo, zt, zR, yp, zS, zp, zT, yq, zu, zU, zE, zV, zF]
    have h1 : (S.top ≤ S.row ∧ S.row ≤ S.bottom) → jN [.own d, .d (.int S.row), .d (.int (-yJ m)), .d (.int r), .d (.int c)] O (Clo R) := fun e => by
      rw [if_pos e] at h
      exact ⟨d, q, S, _, _, r, c, rfl, hd, hB, r0, hr1, hc1, fun z hz => .inl (h z O Old.refl hz)⟩
    have h2 : ¬ (S.top ≤ S.row ∧ S.row ≤ S.bottom) → Clo R (.d (.tuple [.int r, .int c])) O := fun e => by
      rw [if_neg e] at h
      exact .inl (h _ O Old.refl (Frm.here hr1 hc1))
    repeat' split
    all_goals first | exact h1 (by omega) | exact h2 (by omega)
  | k =>
    simp only [vD] at h
    walk_at "wd"
    simp [Lt.inRD, Lt.inIk, hd, and_assoc, zh, zK, zL, yl, zM, zC, zq, zD, zN, zo, zO, zP, zQ, ym, yn, zr, yo, zt, zR, yp, zS, zp, zT, yq, zu, zU, zE, zV, zF]
    have h1 : (S.top ≤ S.row ∧ S.row ≤ S.bottom) → jN [.own d, .d (.int S.row), .d (.int (yJ m)), .d (.int r), .d (.int c)] O (Clo R) := fun e => by
      rw [if_pos e] at h
      exact ⟨d, q, S, _, _, r, c, rfl, hd, hB, r0, hr1, hc1, fun z hz => .inl (h z O Old.refl hz)⟩
    have h2 : ¬ (S.top ≤ S.row ∧ S.row ≤ S.bottom) → Clo R (.d (.tuple [.int r, .int c])) O := fun e => by
      rw [if_neg e] at h
      exact .inl (h _ O Old.refl (Frm.here hr1 hc1))
    repeat' split
    all_goals first | exact h1 (by omega) | exact h2 (by omega)
  | s =>
    walk_at "wd"
    simp [Lt.inRD, Lt.inIk, Lt.inSx, hd, and_assoc, zh, zK, zL, yl, zM, zC, zq, zD, zN, zo, zO, zP, zQ, ym, yn, zr, yo, zt, zR, yp, zS, zp, zT, yq, zu, zU, zE, zV, zF]
    exact ⟨d, q, S, _, r, c, rfl, hd, hB, hr1, hc1, fun z hz => .inl (h z O Old.refl hz)⟩
  | x =>
    walk_at "wd"
    simp [Lt.inRD, Lt.inIk, Lt.inSx, hd, and_assoc, zh, zK, zL, yl, zM, zC, zq, zD, zN, zo, zO, zP, zQ, ym, yn, zr, yo, zt, zR, yp, zS, zp, zT, yq, zu, zU, zE, zV, zF]
    exact ⟨d, q, S, _, r, c, rfl, hd, hB, hr1, hc1, fun z hz => .inl (h z O Old.refl hz)⟩
  | e =>
    simp only [vD] at h
    obtain ⟨q0, q1, q2⟩ := Qe hB
    obtain ⟨p0, p1⟩ := XN hr1 hc1
    have ra := Jq hB (n := (r : Int) * S.w + c)
    have rd : ((r : Int) * S.w + c) / (S.w : Int) = r := by
      rw [Int.add_comm, Int.add_mul_ediv_right _ _ (by omega), Int.ediv_eq_zero_of_lt (by omega) (by omega)]
      omega
    rw [rd] at ra
    have key : (decide ((r : Int) = S.row ∧ S.col ≤ c ∧ (c : Int) < S.col + yJ m) = true) ↔ (S.row * (S.w : Int) + S.col ≤ (r : Int) * S.w + c ∧ (r : Int) * S.w + c < S.row * (S.w : Int) + (if (S.w : Int) < S.col + yJ m then (S.w : Int) else S.col + yJ m)) := by
      rw [decide_eq_true_eq]
      constructor
      · rintro ⟨e1, e2, e3⟩
        rw [e1]
        split <;> omega
      · rintro ⟨e1, e2⟩
        have e4 : (r : Int) = S.row := ra.2 ⟨by omega, by split at e2 <;> omega⟩
        rw [e4] at e1 e2
        exact ⟨e4, by omega, by split at e2 <;> omega⟩
    have z := h _ O Old.refl (Yb hr1 hc1 key)
    walk_at "wd"
    simp [Lt.inRD, Lt.inIk, Lt.inSx, Lt.isE, hd, and_assoc, zh, zK, zL, yl, zM, zC, zq, zD, zN, zo, zO, zP, zQ, ym, yn, zr, yo, zt, zR, yp, zS, zp, zT, yq, zu, zU, zE, zV, zF]
    have z1 : ((r : Int) = S.row ∧ S.col ≤ c ∧ (c : Int) < S.col + yJ m) → Clo R (.d .none) O := fun e => by
      rw [if_pos (decide_eq_true e)] at z
      exact .inl z
    have z2 : ¬ ((r : Int) = S.row ∧ S.col ≤ c ∧ (c : Int) < S.col + yJ m) → Clo R (.d (.tuple [.int r, .int c])) O := fun e => by
      rw [if_neg (by rw [decide_eq_true_eq]; exact e)] at z
      exact .inl z
    repeat' split
    all_goals first | exact z1 (by omega) | exact z2 (by omega)
  | w =>
    rcases hm.cs with rfl | ⟨y, rfl, y0, _⟩
    · walk_at "wd"
      simp [Lt.inRD, Lt.inIk, Lt.inSx, Lt.isE, hd, and_assoc, zh, zK, zL, yl, zM, zC, zq, zD, zN, zo, zO, zP, zQ, ym, yn, zr, yo, zt, zR, yp, zS, zp, zT, yq, zu, zU, zE, zV, zF]
      exact ⟨d, q, S, 0, r, c, rfl, hd, hB, hr1, hc1, by decide, fun z O' o' hz => .inl (h z O' o' hz)⟩
    · walk_at "wd"
      simp [Lt.inRD, Lt.inIk, Lt.inSx, Lt.isE, hd, and_assoc, zh, zK, zL, yl, zM, zC, zq, zD, zN, zo, zO, zP, zQ, ym, yn, zr, yo, zt, zR, yp, zS, zp, zT, yq, zu, zU, zE, zV, zF]
      exact ⟨d, q, S, y, r, c, rfl, hd, hB, hr1, hc1, y0, fun z O' o' hz => .inl (h z O' o' hz)⟩
end
section
variable {P : Program} {w : World} {K : PySem.W.Frag} {mg : Str → Option Value} {base : Heap} {f C : Addr} {fd : FuncData}
theorem zdp (F : Fun K "law" "law" Qq f fd) (T : Txt K mg C) (zfT : Cal P w K mg base 3 "_law_own_by" [] (zb K XG)) (zf0 : Cal P w K mg base 6 "_law_state" [] (zb K (XH C))) (zfS : Cal P w K mg base 1 "_law_most" [] (zb K U8)) (zfR : Cal P w K mg base 1 "_law_mixed" [] (zb K uN))
    (zfF : Cal P w K mg base 6 "_law_changed" [] (zb K (kT C))) (zfK : Cal P w K mg base 1 "_law_exchanged" [] (zb K (Qh C))) (zfG : Cal P w K mg base 7 "_law_deed" [] (zb K (XI C))) (zfW : Cal P w K mg base 1 "_law_right" [] (zb K (ZH C))) : FnOk P w K mg base CX0 8 f fd ["_law_script"] (zb K sLaw) := by
  have nd := Jv.nd
  apply F.okV Jv (by rintro _ _ _ ⟨ns, rfl, _⟩; rfl) (fun cdv A outer sh H E hr => (za (zZ (i := 1) nd rfl (Or.inl rfl) (zj zfT (hr.mono (by decide)) rfl (QA.pa (qc (pv 0) qn))))
      (za (zZ (i := 2) nd rfl (Or.inl rfl) (zj zf0 (hr.mono (by decide)) rfl (QA.pa (qc (pv 1) qn))))
      (za (xK PassesOwn.never rfl (vY rfl T.n_range (QA.pa (qc zc (qc (y7 (x4 rfl) (by rfl) T.n_min (by rfl) (QA.pa (qc (zj zfS (hr.mono (by decide)) rfl (QA.pa (qc (pv 1) qn))) (qc (y7 (Je (K := K) rfl) (by rfl) T.n_len (by rfl) (QA.pa (qc (pv 0) qn))) qn)))) qn)))) (yO (i := 3) nd rfl (Or.inl rfl))
      (za (zZ (i := 4) nd rfl (Or.inl rfl) (zg yF (zj zfR (hr.mono (by decide)) rfl (QA.pa (qc (yM (yY (K := K) rfl) (pv 0) (pv 3) (fun _ _ => rfl)) (qc (pv 3) qn)))) zc))
      (za (yA (zW yX (zg yH (pv 4) zc) zc (zJ _)) (za (yr (zj zfF (hr.mono (by decide)) rfl (QA.pa (qc (pv 2) (qc (pv 1) (qc (zg yF (zj zfR (hr.mono (by decide)) rfl (QA.pa (qc (yM (yY (K := K) rfl) (pv 0) (pv 3) (fun _ _ => rfl)) (qc (zg yC (pv 3) zc) qn)))) zc) qn))))))
      (ze (yr (zj zfK (hr.mono (by decide)) rfl (QA.pa (qc (pv 2) (qc (pv 1) (qc (zg yF (zj zfR (hr.mono (by decide)) rfl (QA.pa (qc (yM (yY (K := K) rfl) (pv 0) (pv 3) (fun _ _ => rfl)) (qc (zg yC (pv 3) zc) qn)))) zc) qn)))))))) z0)
      (ze (yA (PW.pt (qS (vX (xj (zj zfG (hr.mono (by decide)) rfl (QA.pa (qc (pv 2) (qc (pv 1) (qc (zg yF (pv 4) zc) qn))))))) (uB (vX (xj (zj zfW (hr.mono (by decide)) rfl (QA.pa (qc (pv 2) (qc (pv 1) qn))))))))) (ze (zY yW)) z0)))))
      (ze (zY (zj zfW (hr.mono (by decide)) rfl (QA.pa (qc (pv 2) (qc (pv 1) qn))))))))))
  · walk_at "ref"
  rintro _ O R ⟨ns, rfl, hns, hlen, h⟩
  refine yt (fun ρ' O' => ∃ d q S, ρ' = [some (.d (.list (ns.map .int))), some (.own d), none, none, none] ∧ OwnAt O' d q S ∧ Drawn S) (fun R1 hR1 => ?_) ?_
  · walk_at "wd"
    exact ⟨ns, rfl, fun n hn => (hns n hn).mono (by decide), fun d q S O' _ _ ho hD _ => hR1 _ _ ⟨d, q, S, rfl, ho, hD⟩⟩
  rintro _ O1 ⟨d, q, S, rfl, ho, hD⟩
  refine yt (fun ρ' O' => ∃ x dx p st kp, ρ' = [some (.d (.list (ns.map .int))), some (.own d), some (.own x), none, none] ∧ Both O' C x dx p st kp d q S S) (fun R1 hR1 => ?_) ?_
  · walk_at "wd"
    exact ⟨d, q, S, rfl, ho, hD, fun x dx p st kp O' hb _ => hR1 _ _ ⟨x, dx, p, st, kp, rfl, hb⟩⟩
  rintro _ O2 ⟨x, dx, p, st, kp, rfl, hb⟩
  walk_at "wd"
  refine ⟨d, q, S, rfl, hb.o.d, hD.b.w2, hD.b.h2, fun m m0 m1 => ⟨ns.length, by simp [UJ, xz, yS], by split <;> omega, by split <;> omega, ?_⟩⟩
  refine xA.rng (f := fun i => 4 + (i : Int)) (fun i ρ O' => ∃ q' S' v3 v4, ρ = [some (.d (.list (ns.map .int))), some (.own d), some (.own x), v3, v4] ∧ Both O' C x dx p st kp d q' S' S' ∧ Bds S' ∧ yQ S') ⟨q, S, _, _, rfl, hb, hD.b, hD.all⟩ ?_ ?_
  · rintro i _ O3 hi ⟨q', S', v3, v4, rfl, hb3, hB3, hP3⟩ R1 hR1
    have hi2 : 4 + i < ns.length := by split at hi <;> omega
    have i2 : 4 + (i : Int) ≤ 63 := by omega
    have e1 : yS O3 (.d (.list (ns.map .int))) = some ((ns.map PyData.int).map W.d) := rfl
    have e2 : ∀ O, yS O (.d (.list (ns.map .int))) = some ((ns.map PyData.int).map W.d) := fun _ => rfl
    have e3 : atI ((ns.map PyData.int).map W.d) (4 + (i : Int)) = some (.d (.int ns[4 + i])) := by
      have := ut (xs := (ns.map PyData.int).map W.d) (j := 4 + i) (v := .d (.int ns[4 + i])) (by simp [hi2])
      rw [← this]
      congr 1
    have hc : Bt 1048600 ns[4 + i] := (hns _ (List.getElem_mem hi2)).mono (by decide)
    refine yt (fun ρ' O' => ∃ k, 0 ≤ k ∧ ρ' = [some (.d (.list (ns.map .int))), some (.own d), some (.own x), some (.d (.int (4 + (i : Int)))), some (.d (.int k))] ∧ O3 = O') (fun R2 hR2 => ?_) ?_
    · walk_at "wd"
      exact ⟨_, rfl, _, e3, _, rfl, by omega, by omega, hc, ⟨by decide, by decide⟩, hR2 _ _ ⟨_, Int.ediv_nonneg (vL _ _) (by decide), rfl, rfl⟩⟩
    rintro _ _ ⟨k, hk, rfl, rfl⟩
    refine yt (fun ρ' O' => ∃ S2, ρ' = [some (.d (.list (ns.map .int))), some (.own d), some (.own x), some (.d (.int (4 + (i : Int)))), some (.d (.int k))] ∧ Both O' C x dx p st kp d q' S2 S2 ∧ Bds S2 ∧ yQ S2) (fun R2 hR2 => ?_) ?_
    · walk_at "wd"
      split
      · exact ⟨_, rfl, _, e3, _, rfl, by omega, by omega, hc, ⟨by decide, by decide⟩, x, dx, p, st, kp, d, q', S', _, rfl, Int.ediv_nonneg (vL _ _) (by decide), hb3, hB3, hP3, fun S2 O' k1 k2 k3 => ⟨_, rfl, _, e3, _, rfl, by omega, by omega, hc, ⟨by decide, by decide⟩, x, dx, p, st, kp, d, q', S2, _, rfl, Int.ediv_nonneg (vL _ _) (by decide), k1, k2, k3, fun S3 O2 j1 j2 j3 => hR2 _ _ ⟨S3, rfl, j1, j2, j3⟩⟩⟩
      · exact hR2 _ _ ⟨S', rfl, hb3, hB3, hP3⟩
    rintro _ O4 ⟨S2, rfl, hb4, hB4, hP4⟩
    walk_at "wd"
    exact ⟨⟨by decide, by decide⟩, x, dx, p, st, kp, d, q', S2, _, rfl, Int.ediv_nonneg hk (by decide), hb4, hB4, hP4, fun q2 S3 O' k1 k2 k3 => by
      have z : ZH C [.own x, .own d] O' fun w O1 => match w with | .d (.bool k2) => if k2 = true then R1 [some (.d (.list (ns.map .int))), some (.own d), some (.own x), some (.d (.int (4 + (i : Int)))), some (.d (.int k))] O1 else Clo R (.d (.bool false)) O1 | _ => False := ⟨x, dx, p, st, kp, d, q2, S3, rfl, k1, k2, k3, hR1 _ _ ⟨q2, S3, _, _, rfl, k1, k2, k3⟩⟩
      exact z⟩
  · rintro _ O3 ⟨q', S', v3, v4, rfl, hb3, hB3, hP3⟩
    walk_at "wd"
    exact ⟨x, dx, p, st, kp, d, q', S', rfl, hb3, hB3, hP3, .inl (h _)⟩
end
section
variable {P : Program} {w : World} {K : PySem.W.Frag} {mg : Str → Option Value} {base : Heap} {f C : Addr} {fd : FuncData}
theorem Qx (F : Fun K "_law_put" "_law_put" jl f fd) (T : Txt K mg C) (zfL : Cal P w K mg base 3 "_law_from" [] (zb K Qg)) : FnOk P w K mg base CX0 4 f fd ["_law_own", "_law_letter", "_law_many"] (zb K (ZJ C)) := by
  have nd := kH.nd
  apply F.okV kH (by rintro _ _ _ ⟨x, dx, p, st, kp, d, q, S0, S, m, l, rfl, _⟩; rfl) (fun cdv A outer sh H E hr => (za (zZ (i := 3) nd rfl (Or.inl rfl) V8)
      (za (xK PassesOwn.never rfl (xP rfl T.n_range (QA.pa (qc (zf (zk hr) (pv 0) zd (fun _ _ => rfl)) qn))) (yO (i := 4) nd rfl (Or.inl rfl))
      (za (zZ (i := 5) nd rfl (Or.inl rfl) (Z6 qn))
      (za (xK PassesOwn.never rfl (xP rfl T.n_range (QA.pa (qc (zf (zk hr) (pv 0) zd (fun _ _ => rfl)) qn))) (yO (i := 6) nd rfl (Or.inl rfl))
      (za (zZ (i := 7) nd rfl (Or.inl rfl) (zj zfL (hr.mono (by decide)) rfl (QA.pa (qc (pv 0) (qc (pv 1) (qc (pv 2) (qc (pv 4) (qc (pv 6) qn))))))))
      (ze (yA (zW vB (pv 7) yZ (zJ _)) (ze (yr (uc (K := K) rfl PySem.F.plainAttrs_list PySem.F.slot_list_append PySem.F.type_list_append vz (pv 5) (QA.pa (qc (yD (qc zd (qc (zf (zk hr) (pv 0) zd (fun _ _ => rfl)) qn))) qn))))) (ze (yr (uc (K := K) rfl PySem.F.plainAttrs_list PySem.F.slot_list_append PySem.F.type_list_append vz (pv 5) (QA.pa (qc (yM (yY (K := K) rfl) (yM (yY (K := K) rfl) (zf (zk hr) (pv 0) zd (fun _ _ => rfl)) (yM (x9 (K := K) rfl) (pv 7) zc (fun _ _ => rfl)) (fun _ _ => rfl)) (yM (x9 (K := K) rfl) (pv 7) zc (fun _ _ => rfl)) (fun _ _ => rfl)) qn)))))))))
      (ze (yr (uc (K := K) rfl PySem.F.plainAttrs_list PySem.F.slot_list_append PySem.F.type_list_append vz (pv 3) (QA.pa (qc (pv 5) qn))))))))
      (ze (yI (zk hr) (pv 0) zd (pv 3) rfl)))))
  · walk_at "ref"
  rintro _ O R ⟨x, dx, p, st, kp, d, q, S0, S, m, l, rfl, hm, hb, hB, h⟩
  have w1 := hB.w1
  have w2 := hB.w2
  have h2 := hB.h2
  generalize hN : vD l m S = N at h
  refine yt (fun ρ' O' => ∃ g, O g = none ∧ ρ' = [some (.own d), some (.d (.str l.str)), some (.d m), some (.own g), none, none, none, none] ∧ Old O O' ∧ O' g = some (.grid [])) (fun R1 hR1 => ?_) ?_
  · walk_at "wd"
    exact fun g hg => hR1 _ _ ⟨g, hg, rfl, Old.refl.upd hg, zn⟩
  rintro _ O1 ⟨g, hg, rfl, o1, hg1⟩
  refine yt (fun ρ' O' => ∃ v4 v5 v6 v7, ρ' = [some (.own d), some (.d (.str l.str)), some (.d m), some (.own g), v4, v5, v6, v7] ∧ Old O O' ∧ O' g = some (.grid (genG S.h S.w N))) (fun R1 hR1 => ?_) ?_
  · have hd1 := (hb.old o1).o.d
    walk_at "wd"
    simp [hd1, and_assoc, zh, zK, zL, yl, zM, zC, zq, zD, zN, zo, zO, zP, zQ, ym, yn, zr, yo, zt, zR, yp, zS, zp, zT, yq, zu, zU, zE, zV, zF]
    refine ⟨by omega, ?_⟩
    refine xA.rng (f := fun i => (i : Int)) (fun i ρ O' => ∃ v4 v5 v6 v7, ρ = [some (.own d), some (.d (.str l.str)), some (.d m), some (.own g), v4, v5, v6, v7] ∧ Old O O' ∧ O' g = some (.grid (genG i S.w N))) ⟨_, _, _, _, rfl, o1, hg1⟩ ?_ ?_
    · rintro i _ O2 hi ⟨v4, v5, v6, v7, rfl, o2, hg2⟩ R2 hR2
      refine yt (fun ρ' O' => ∃ b, O b = none ∧ b ≠ g ∧ ρ' = [some (.own d), some (.d (.str l.str)), some (.d m), some (.own g), some (.d (.int i)), some (.own b), v6, v7] ∧ Old O O' ∧ O' g = some (.grid (genG i S.w N)) ∧ O' b = some (.lst [])) (fun R3 hR3 => ?_) ?_
      · walk_at "wd"
        intro b hb'
        have hbg : b ≠ g := Ne.symm (neO hg2 hb')
        exact hR3 _ _ ⟨b, o2.new hb', hbg, rfl, o2.upd (o2.new hb'), by rw [zi (Ne.symm hbg)]; exact hg2, zn⟩
      rintro _ O3 ⟨b, hb0, hbg, rfl, o3, hg3, hb3⟩
      refine yt (fun ρ' O' => ∃ v6 v7, ρ' = [some (.own d), some (.d (.str l.str)), some (.d m), some (.own g), some (.d (.int i)), some (.own b), v6, v7] ∧ Old O O' ∧ O' g = some (.grid (genG i S.w N)) ∧ O' b = some (.lst (((List.range S.w).map fun j => yE (N i j)).map .d))) (fun R3 hR3 => ?_) ?_
      · have hd3 := (hb.old o3).o.d
        walk_at "wd"
        simp [hd3, and_assoc, zh, zK, zL, yl, zM, zC, zq, zD, zN, zo, zO, zP, zQ, ym, yn, zr, yo, zt, zR, yp, zS, zp, zT, yq, zu, zU, zE, zV, zF]
        refine ⟨by omega, ?_⟩
        refine xA.rng (f := fun i => (i : Int)) (fun j ρ O' => ∃ v6 v7, ρ = [some (.own d), some (.d (.str l.str)), some (.d m), some (.own g), some (.d (.int i)), some (.own b), v6, v7] ∧ Old O O' ∧ O' g = some (.grid (genG i S.w N)) ∧ O' b = some (.lst (((List.range j).map fun j => yE (N i j)).map .d))) ⟨_, _, rfl, o3, hg3, hb3⟩ ?_ ?_
        · rintro j _ O4 hj ⟨v6, v7, rfl, o4, hg4, hb4⟩ R4 hR4
          refine yt (fun ρ' O' => ∃ z, Frm S (N i j) z ∧ ρ' = [some (.own d), some (.d (.str l.str)), some (.d m), some (.own g), some (.d (.int i)), some (.own b), some (.d (.int j)), some (.d z)] ∧ Old O O' ∧ O' g = some (.grid (genG i S.w N)) ∧ O' b = some (.lst (((List.range j).map fun j => yE (N i j)).map .d))) (fun R5 hR5 => ?_) ?_
          · walk_at "wd"
            refine ⟨d, q, S, m, l, i, j, rfl, (hb.old o4).o.d, hm, hB, hi, hj, fun z O' o' hz => hR5 _ _ ⟨z, by rw [← hN]; exact hz, rfl, fun c hc => by rw [o' c (by rw [o4 c hc]; exact hc), o4 c hc], by rw [o' g (by rw [hg4]; simp)]; exact hg4, by rw [o' b (by rw [hb4]; simp)]; exact hb4⟩⟩
          rintro _ O5 ⟨z, hz, rfl, o5, hg5, hb5⟩
          have hd5 := (hb.old o5).o.d
          obtain ⟨L, hL⟩ : ∃ L, L = ((List.range j).map fun j => yE (N i j)).map W.d := ⟨_, rfl⟩
          rw [← hL] at hb5
          have e2 : ∀ w, ql O5 (.own b) w = some (updO O5 b (.lst (L ++ [w]))) := fun w => by
            simp only [ql, hb5]
            rw [if_pos (by rw [hL]; simp; omega)]
          have nx : ∀ y, y = yE (N i j) → R4 [some (.own d), some (.d (.str l.str)), some (.d m), some (.own g), some (.d (.int i)), some (.own b), some (.d (.int j)), some (.d z)] (updO O5 b (.lst (L ++ [.d y]))) := by
            rintro _ rfl
            refine hR4 _ _ ⟨_, _, rfl, o5.upd hb0, by rw [zi (Ne.symm hbg)]; exact hg5, ?_⟩
            rw [zn, hL, List.range_succ, List.map_append, List.map_append]
            rfl
          rcases hz with ⟨rfl, hv⟩ | ⟨r, c, rfl, r0, r1, c0, c1, hv⟩
          · walk_at "wd"
            simp [hd5, yP, e2, and_assoc, zh, zK, zL, yl, zM, zC, zq, zD, zN, zo, zO, zP, zQ, ym, yn, zr, yo, zt, zR, yp, zS, zp, zT, yq, zu, zU, zE, zV, zF]
            exact ⟨.inl ⟨rfl, by simp [yS, hb5]⟩, nx _ (by rw [hv]; rfl)⟩
          · have hq5 := (hb.old o5).o.q
            have e3 := y9 hq5
            rw [xl] at e3
            have e4 : atI ((List.range S.h).map (W.row q)) r = some (W.row q r.toNat) := xa r0 r1
            have e5 := qZ hq5 (i := r.toNat) (by omega)
            have e6 : atI ((List.range S.w).map fun j => W.d (yE (S.pic r.toNat j))) c = some (.d (yE (S.pic r.toNat c.toNat))) := xa c0 c1
            walk_at "wd"
            simp [hd5, e3, e2, zd2, zd3, e4, e5, e6, and_assoc, zh, zK, zL, yl, zM, zC, zq, zD, zN, zo, zO, zP, zQ, ym, yn, zr, yo, zt, zR, yp, zS, zp, zT, yq, zu, zU, zE, zV, zF]
            refine ⟨.inl ⟨rfl, by simp [yS, hb5]⟩, nx _ (by rw [hv]; rfl)⟩
        · rintro _ O4 ⟨v6, v7, rfl, o4, hg4, hb4⟩
          exact hR3 _ _ ⟨_, _, rfl, o4, hg4, hb4⟩
      rintro _ O4 ⟨v6, v7, rfl, o4, hg4, hb4⟩
      have eA : ql O4 (.own g) (.own b) = some (updO (del O4 b) g (.grid (genG (i + 1) S.w N))) := by
        simp only [ql, hg4, hb4, vJ, Option.map_some, xl]
        rw [if_pos (by omega), Yx]
      walk_at "wd"
      simp [eA]
      exact ⟨.inl ⟨rfl, by rw [y9 hg4]; rfl⟩, hR2 _ _ ⟨_, _, _, _, rfl, fun c hc => by rw [zi (fun e => hc (by rw [e]; exact hg)), x8 (fun e => hc (by rw [e]; exact hb0))]; exact o4 c hc, zn⟩⟩
    · rintro _ O2 ⟨v4, v5, v6, v7, rfl, o2, hg2⟩
      exact hR1 _ _ ⟨_, _, _, _, rfl, o2, hg2⟩
  rintro _ O2 ⟨v4, v5, v6, v7, rfl, o2, hg2⟩
  have hb2 := hb.old o2
  have hd2 := hb2.o.d
  have gd : d ≠ g := neO hb.o.d hg
  walk_at "wd"
  simp [hd2, xm, and_assoc, zh, zK, zL, yl, zM, zC, zq, zD, zN, zo, zO, zP, zQ, ym, yn, zr, yo, zt, zR, yp, zS, zp, zT, yq, zu, zU, zE, zV, zF]
  refine .inl (h g _ ⟨?_, ⟨?_, ?_⟩, hb.ds, neO hb.s.p hg⟩)
  · exact hb2.s.keep (y := d) (z := d) (fun c h1 _ => zi h1) (Ne.symm hb.dx') (Ne.symm hb.dx') (Ne.symm hb.dp) (Ne.symm hb.dp) (Ne.symm hb.ds) (Ne.symm hb.ds) (Ne.symm hb.dk) (Ne.symm hb.dk)
  · rw [zn]; rfl
  · rw [zi (Ne.symm gd)]; exact hg2
theorem ZW (F : Fun K "_law_line_end" "_law_line_end" vF f fd) (T : Txt K mg C) (zfV : Cal P w K mg base 4 "_law_put" [] (zb K (ZJ C))) : FnOk P w K mg base CX0 5 f fd ["_law_own"] (zb K (Qa C)) := by
  have nd := u4.nd
  apply F.okV u4 (by rintro _ _ _ ⟨x, dx, p, st, kp, d, q, S0, S, rfl, _⟩; rfl) (fun cdv A outer sh H E hr => (za (yI (zk hr) (pv 0) zd yW rfl)
      (za (yI (zk hr) (pv 0) zd (xg (zW Zc (zf (zk hr) (pv 0) zd (fun _ _ => rfl)) (zf (zk hr) (pv 0) zd (fun _ _ => rfl)) (zJ _)) (zf (zk hr) (pv 0) zd (fun _ _ => rfl)) zc) rfl)
      (ze (yA (zW yX (zf (zk hr) (pv 0) zd (fun _ _ => rfl)) (zf (zk hr) (pv 0) zd (fun _ _ => rfl)) (zJ _)) (ze (yr (zj zfV (hr.mono (by decide)) rfl (QA.pa (qc (pv 0) (qc zd (qc zc qn))))))) (ze (yA (zW qT (zg yC (zf (zk hr) (pv 0) zd (fun _ _ => rfl)) zc) (zf (zk hr) (pv 0) zd (fun _ _ => rfl)) (zJ _)) (ze (yI (zk hr) (pv 0) zd (zg yC (zf (zk hr) (pv 0) zd (fun _ _ => rfl)) zc) rfl)) z0)))))))
  · walk_at "ref"
  rintro _ O R ⟨x, dx, p, st, kp, d, q, S0, S, rfl, hb, hB, h⟩
  refine ZI (fun ρ' O' => ρ' = [some (.own d)] ∧ Both O' C x dx p st kp d q S0 (u9 S)) (fun R1 hR1 => ?_) ?_
  · have hd := hb.o.d
    have e : ∀ c, c = eL S → Both (updO O d (.dK (ownW q { S with late := false, col := c }))) C x dx p st kp d q S0 (u9 S) := fun c hc => by
      rw [hc]
      exact hb.ow' (hb.o.fld (S' := u9 S) rfl rfl rfl) But.ux
    walk_at "wd"
    simp [hd, xm, and_assoc, zh, zK, zL, yl, zM, zC, zq, zD, zN, zo, zO, zP, zQ, ym, yn, zr, yo, zt, zR, yp, zS, zp, zT, yq, zu, zU, zE, zV, zF]
    split
    · rename_i e1
      exact hR1 _ _ ⟨rfl, e _ (by unfold eL; rw [if_pos e1])⟩
    · rename_i e1
      exact hR1 _ _ ⟨rfl, e _ (by unfold eL; rw [if_neg e1])⟩
  rintro _ O1 ⟨rfl, hb1⟩
  have hB1 := hB.left
  have hd := hb1.o.d
  simp only [lineE] at h
  generalize u9 S = S1 at *
  walk_at "wd"
  simp [hd, xm, and_assoc, zh, zK, zL, yl, zM, zC, zq, zD, zN, zo, zO, zP, zQ, ym, yn, zr, yo, zt, zR, yp, zS, zp, zT, yq, zu, zU, zE, zV, zF]
  split
  · rename_i e
    rw [if_pos e] at h
    exact ⟨x, dx, p, st, kp, d, q, S0, S1, .int 1, .R, rfl, ⟨by decide, by decide⟩, hb1, hB1, fun q' O' k1 => .inl (h q' O' k1)⟩
  · rename_i e
    rw [if_neg e] at h
    split
    · rename_i e2
      rw [if_pos (by omega)] at h
      exact .inl (h q _ (hb1.ow' (hb1.o.fld rfl rfl rfl) But.ux))
    · rename_i e2
      rw [if_neg (by omega)] at h
      exact .inl (h q _ hb1)
theorem VO (F : Fun K "_law_sign" "_law_sign" qB f fd) (T : Txt K mg C) (zfQ : Cal P w K mg base 5 "_law_line_end" [] (zb K (Qa C))) (zfV : Cal P w K mg base 4 "_law_put" [] (zb K (ZJ C))) (zfX : Cal P w K mg base 1 "_law_right_edge" [] (zb K qL)) : FnOk P w K mg base CX0 6 f fd ["_law_own", "_law_sign_here"] (zb K (ZK C)) := by
  have nd := jZ.nd
  apply F.okV jZ (by rintro _ _ _ ⟨x, dx, p, st, kp, d, q, S0, S, c, rfl, _⟩; rfl) (fun cdv A outer sh H E hr => (za (yA (PW.pt (k7 (xj (zf (zk hr) (pv 0) zd (fun _ _ => rfl))) (j9 (xj (zf (zk hr) (pv 0) zd (fun _ _ => rfl)))))) (ze (yr (zj zfQ (hr.mono (by decide)) rfl (QA.pa (qc (pv 0) qn))))) z0)
      (za (yA (xj (zf (zk hr) (pv 0) zd (fun _ _ => rfl))) (ze (yr (zj zfV (hr.mono (by decide)) rfl (QA.pa (qc (pv 0) (qc zd (qc zc qn))))))) z0)
      (za (zZ (i := 2) nd rfl (Or.inl rfl) (zj zfX (hr.mono (by decide)) rfl (QA.pa (qc (pv 0) qn))))
      (za (x3 (yD (qc (pv 1) (qc (zf (zk hr) (pv 0) zd (fun _ _ => rfl)) qn))) (vm (yM (yY (K := K) rfl) (zf (zk hr) (pv 0) zd (fun _ _ => rfl)) (zf (zk hr) (pv 0) zd (fun _ _ => rfl)) (fun _ _ => rfl)) (zf (zk hr) (pv 0) zd (fun _ _ => rfl)) xF))
      (za (yI (zk hr) (pv 0) zd (jv (zf (zk hr) (pv 0) zd (fun _ _ => rfl)) (k8 (xi yX (zf (zk hr) (pv 0) zd (fun _ _ => rfl)) (pv 2) (zJ _)))) rfl)
      (za (yI (zk hr) (pv 0) zd (y7 (x4 rfl) (by rfl) T.n_min (by rfl) (QA.pa (qc (zg yC (zf (zk hr) (pv 0) zd (fun _ _ => rfl)) zc) (qc (pv 2) qn)))) rfl)
      (ze (yI (zk hr) (pv 0) zd (pv 1) rfl)))))))))
  · walk_at "ref"
  rintro _ O R ⟨x, dx, p, st, kp, d, q, S0, S, c, rfl, hb, hB, h⟩
  rw [vO] at h
  refine yt (fun ρ' O' => ∃ q', ρ' = [some (.own d), some (.d (.str c)), none] ∧ Both O' C x dx p st kp d q' S0 (pA S)) (fun R1 hR1 => ?_) ?_
  · have hd := hb.o.d
    walk_at "wd"
    simp [hd, and_assoc, zh, zK, zL, yl, zM, zC, zq, zD, zN, zo, zO, zP, zQ, ym, yn, zr, yo, zt, zR, yp, zS, zp, zT, yq, zu, zU, zE, zV, zF]
    by_cases e : S.late = true ∧ S.wrap = true
    · rw [pA, if_pos e] at hR1
      simp [e.1, e.2]
      exact ⟨x, dx, p, st, kp, d, q, S0, S, rfl, hb, hB, fun q' O' k => hR1 _ _ ⟨q', rfl, k⟩⟩
    · rw [pA, if_neg e] at hR1
      have := hR1 _ _ ⟨q, rfl, hb⟩
      cases hl : S.late <;> cases hw : S.wrap <;> simp [hl, hw] at e ⊢ <;> exact this
  rintro _ O1 ⟨q1, rfl, hb1⟩
  have hB1 : Bds (pA S) := hB.pA
  generalize pA S = S1 at *
  refine yt (fun ρ' O' => ∃ q', ρ' = [some (.own d), some (.d (.str c)), none] ∧ Both O' C x dx p st kp d q' S0 { pC S1 with late := S1.late }) (fun R1 hR1 => ?_) ?_
  · have hd := hb1.o.d
    walk_at "wd"
    simp [hd, and_assoc, zh, zK, zL, yl, zM, zC, zq, zD, zN, zo, zO, zP, zQ, ym, yn, zr, yo, zt, zR, yp, zS, zp, zT, yq, zu, zU, zE, zV, zF]
    cases hl : S1.putting
    · rw [pC, hl, if_neg (by decide)] at hR1
      simp
      exact hR1 _ _ ⟨q1, rfl, hb1⟩
    · rw [pC, hl, if_pos rfl] at hR1
      simp
      exact ⟨x, dx, p, st, kp, d, q1, S0, S1, .int 1, .s, rfl, ⟨by decide, by decide⟩, hb1, hB1, fun q' O' k => hR1 _ _ ⟨q', rfl, k⟩⟩
  rintro _ O2 ⟨q2, rfl, hb2⟩
  have hB2 : Bds (pC S1) := hB1.pC
  have e0 : pC (pB S1) = { pC S1 with late := false } := by
    unfold pC pB
    simp only
    split <;> rfl
  rw [e0] at h
  generalize hlt : S1.late = lt at hb2
  generalize pC S1 = S2 at *
  refine yt (fun ρ' O' => ρ' = [some (.own d), some (.d (.str c)), some (.d (.int (eR S2)))] ∧ O2 = O') (fun R1 hR1 => ?_) ?_
  · walk_at "wd"
    exact ⟨d, q2, _, rfl, hb2.o.d, hR1 _ _ ⟨rfl, rfl⟩⟩
  rintro _ _ ⟨rfl, rfl⟩
  refine yt (fun ρ' O' => ρ' = [some (.own d), some (.d (.str c)), some (.d (.int (eR S2)))] ∧ Both O' C x dx p st kp d q2 S0 { S2 with late := lt, pic := setF S2.pic S2.row.toNat S2.col.toNat (c, S2.ink) }) (fun R1 hR1 => ?_) ?_
  · have hd := hb2.o.d
    have r0 := hB2.r0
    have r1 := hB2.r1
    have e1 := y9 hb2.o.q
    rw [xl] at e1
    have e2 : atI ((List.range S2.h).map (W.row q2)) S2.row = some (W.row q2 S2.row.toNat) := xa hB2.r0 hB2.r1
    have e3 : uI O2 (.row q2 S2.row.toNat) S2.col (.d (.tuple [.str c, .int S2.ink])) = _ := xI (c := (c, S2.ink)) hb2.o.q (by simp only; omega) hB2.c0 hB2.c1
    walk_at "wd"
    simp [hd, e1, e2, e3, yP, and_assoc, zh, zK, zL, yl, zM, zC, zq, zD, zN, zo, zO, zP, zQ, ym, yn, zr, yo, zt, zR, yp, zS, zp, zT, yq, zu, zU, zE, zV, zF]
    exact hR1 _ _ ⟨rfl, hb2.ow' hb2.o.pic But.up⟩
  rintro _ O3 ⟨rfl, hb3⟩
  have er := qe hB2
  have hd := hb3.o.d
  walk_at "wd"
  simp [hd, xm, and_assoc, zh, zK, zL, yl, zM, zC, zq, zD, zN, zo, zO, zP, zQ, ym, yn, zr, yo, zt, zR, yp, zS, zp, zT, yq, zu, zU, zE, zV, zF]
  have T0 : ∀ (lt' : Bool) (cc : Int), lt' = (if S2.col < eR S2 then false else S2.wrap) → cc = (if S2.col < eR S2 then S2.col + 1 else S2.col) → Both (updO O3 d (.dK (ownW q2 { S2 with col := cc, late := lt', last := .str c, pic := setF S2.pic S2.row.toNat S2.col.toNat (c, S2.ink) }))) C x dx p st kp d q2 S0 (pF (pE c (pD c { S2 with late := false }))) := by
    rintro _ _ rfl rfl
    have e : pF (pE c (pD c { S2 with late := false })) = { S2 with col := (if S2.col < eR S2 then S2.col + 1 else S2.col), late := (if S2.col < eR S2 then false else S2.wrap), last := .str c, pic := setF S2.pic S2.row.toNat S2.col.toNat (c, S2.ink) } := by
      by_cases hc : S2.col < eR S2
      · rw [if_pos hc, if_pos hc]
        exact if_pos hc
      · rw [if_neg hc, if_neg hc]
        exact if_neg hc
    rw [e]
    exact hb3.ow' (hb3.o.fld rfl rfl rfl) But.ux
  have f2 : (if eR S2 < S2.col + 1 then eR S2 else S2.col + 1) = (if S2.col < eR S2 then S2.col + 1 else S2.col) := by split <;> split <;> omega
  have hw : S2.wrap = false ∨ S2.wrap = true := by cases S2.wrap <;> simp
  rcases hw with hw | hw
  · exact .inl ⟨hw, .inl (h q2 _ (T0 _ _ (by rw [hw]; split <;> rfl) f2))⟩
  · refine .inr ⟨hw, .inl (h q2 _ (T0 _ _ ?_ f2))⟩
    clear f2
    rw [hw]
    by_cases hc : S2.col < eR S2
    · rw [if_pos hc, decide_eq_false (by omega)]
    · rw [if_neg hc, decide_eq_true (by omega)]
end
section
variable {P : Program} {w : World} {K : PySem.W.Frag} {mg : Str → Option Value} {base : Heap} {f C : Addr} {fd : FuncData}
theorem VP (F : Fun K "_law_done" "_law_done" qC f fd) (T : Txt K mg C) (zgs : Cal P w K mg base 4 "roll" [] (zb K (XJ C))) (zgq : Cal P w K mg base 4 "put_lines" [] (zb K (UX C))) (zgc : Cal P w K mg base 4 "cut_lines" [] (zb K (UY C)))
    (zgp : Cal P w K mg base 3 "put_cells" [] (zb K (Y0 C))) (zgb : Cal P w K mg base 3 "cut_cells" [] (zb K (Qb C))) (zgF : Cal P w K mg base 3 "wipe_cells" [] (zb K (Qc C))) (zgE : Cal P w K mg base 3 "wipe" [] (zb K (Qd C))) : FnOk P w K mg base CX0 5 f fd ["_law_state_here", "_law_letter", "_law_many"] (zb K (Qf C)) := by
  have nd := j4.nd
  apply F.okV j4 (by rintro _ _ _ ⟨x, dx, p, st, kp, S, m, l, rfl, _⟩; rfl) (fun cdv A outer sh H E hr => (za (yA (zW vZ (pv 1) zd (by with_unfolding_all rfl)) (ze (zY (zj zgs (hr.mono (by decide)) rfl (QA.pa (qc (pv 0) (qc (pv 1) (qc (pv 2) qn))))))) z0)
      (za (yA (zW yX (pv 1) zd (zJ _)) (ze (zY (zj zgq (hr.mono (by decide)) rfl (QA.pa (qc (pv 0) (qc (pv 2) qn)))))) z0)
      (za (yA (zW yX (pv 1) zd (zJ _)) (ze (zY (zj zgc (hr.mono (by decide)) rfl (QA.pa (qc (pv 0) (qc (pv 2) qn)))))) z0)
      (za (yA (zW yX (pv 1) zd (zJ _)) (ze (zY (zj zgp (hr.mono (by decide)) rfl (QA.pa (qc (pv 0) (qc (pv 2) qn)))))) z0)
      (za (yA (zW yX (pv 1) zd (zJ _)) (ze (zY (zj zgb (hr.mono (by decide)) rfl (QA.pa (qc (pv 0) (qc (pv 2) qn)))))) z0)
      (za (yA (zW yX (pv 1) zd (zJ _)) (ze (zY (zj zgF (hr.mono (by decide)) rfl (QA.pa (qc (pv 0) (qc (pv 2) qn)))))) z0)
      (ze (zY (zj zgE (hr.mono (by decide)) rfl (QA.pa (qc (pv 0) (qc (pv 2) qn)))))))))))))
  · walk_at "ref"
  rintro _ O R ⟨x, dx, p, st, kp, S, m, l, rfl, hm, hs, hB, h⟩
  have h' : ∀ O', StAt O' C x dx p st kp (jM l m S) → But O O' x p → R (.d .none) O' := fun O' h1 h2 => h O' h1 fun c c1 c2 _ => h2 c c1 c2
  cases l with
  | R =>
    walk_at "wd"
    simp [Lt.inRD]
    exact ⟨true, m, hm, x, dx, p, st, kp, S, rfl, hs, hB, fun O' h1 h2 => .inl (h' O' h1 h2)⟩
  | D =>
    walk_at "wd"
    simp [Lt.inRD]
    exact ⟨false, m, hm, x, dx, p, st, kp, S, rfl, hs, hB, fun O' h1 h2 => .inl (h' O' h1 h2)⟩
  | i =>
    walk_at "wd"
    simp [Lt.inRD, Lt.isI]
    exact ⟨m, hm, x, dx, p, st, kp, S, rfl, hs, hB, fun O' h1 h2 => .inl (h' O' (by rw [← zd4]; exact h1) h2)⟩
  | k =>
    walk_at "wd"
    simp [Lt.inRD, Lt.isI, Lt.isK]
    exact ⟨m, hm, x, dx, p, st, kp, S, rfl, hs, hB, fun O' h1 h2 => .inl (h' O' (by rw [← zd5]; exact h1) h2)⟩
  | s =>
    walk_at "wd"
    simp [Lt.inRD, Lt.isI, Lt.isK, Lt.isS]
    exact ⟨m, hm, x, dx, p, st, kp, S, rfl, hs, hB, fun O' h1 h2 => .inl (h' O' h1 h2)⟩
  | x =>
    walk_at "wd"
    simp [Lt.inRD, Lt.isI, Lt.isK, Lt.isS, Lt.isX]
    exact ⟨m, hm, x, dx, p, st, kp, S, rfl, hs, hB, fun O' h1 h2 => .inl (h' O' h1 h2)⟩
  | e =>
    walk_at "wd"
    simp [Lt.inRD, Lt.isI, Lt.isK, Lt.isS, Lt.isX, Lt.isE]
    exact ⟨m, hm, x, dx, p, st, kp, S, rfl, hs, hB, fun O' h1 h2 => .inl (h' O' h1 h2)⟩
  | w =>
    walk_at "wd"
    simp [Lt.inRD, Lt.isI, Lt.isK, Lt.isS, Lt.isX, Lt.isE]
    exact ⟨x, dx, p, st, kp, S, m, rfl, hm, hs, hB, fun O' h1 h2 => .inl (h O' h1 h2)⟩
theorem kZ (F : Fun K "_law_exchanged" "_law_exchanged" vx f fd) (T : Txt K mg C) : FnOk P w K mg base CX0 1 f fd ["_law_state_here", "_law_own", "_law_number"] (zb K (Qh C)) := by
  have nd := ul.nd
  apply F.okV ul (by rintro _ _ _ ⟨x, dx, p, st, kp, d, q, S, n, rfl, _⟩; rfl) (fun cdv A outer sh H E hr => (za (Y6 (i := 3) (j := 4) rfl nd rfl rfl (by decide) rfl rfl (QA.pa (qc (zg yH (pv 2) (zf (zk hr) (pv 1) zd (fun _ _ => rfl))) (qc (zg yH (zg yF (pv 2) zc) (zf (zk hr) (pv 1) zd (fun _ _ => rfl))) qn))) rfl)
      (za (x3 (yD (qc zd (qc (zg yH (zg yF (pv 2) zc) zc) qn))) (vm (yM (yY (K := K) rfl) (zl (K := K) rfl (pv 0) rfl) (pv 3) (fun _ _ => rfl)) (pv 4) xF))
      (ze (x3 (yD (qc zd (qc (zg yH (zg yF (pv 2) zc) zc) qn))) (vm (yM (yY (K := K) rfl) (zf (zk hr) (pv 1) zd (fun _ _ => rfl)) (pv 3) (fun _ _ => rfl)) (pv 4) xF))))))
  · walk_at "ref"
  rintro _ O R ⟨x, dx, p, st, kp, d, q, S, n, rfl, hn, hb, hB, hP, h⟩
  have h1 := hB.h1
  have w1 := hB.w1
  have q0 : 0 ≤ n % (S.h : Int) := Int.emod_nonneg _ (by omega)
  have q1 : n % (S.h : Int) < S.h := Int.emod_lt_of_pos _ (by omega)
  have q2 : 0 ≤ n / 12 % (S.w : Int) := Int.emod_nonneg _ (by omega)
  have q3 : n / 12 % (S.w : Int) < S.w := Int.emod_lt_of_pos _ (by omega)
  refine yt (fun ρ' O' => ∃ r c : Int, 0 ≤ r ∧ r < S.h ∧ 0 ≤ c ∧ c < S.w ∧ ρ' = [some (.own x), some (.own d), some (.d (.int n)), some (.d (.int r)), some (.d (.int c))] ∧ O = O') (fun R1 hR1 => ?_) ?_
  · have hd := hb.o.d
    walk_at "wd"
    simp [hd, xy, and_assoc, zh, zK, zL, yl, zM, zC, zq, zD, zN, zo, zO, zP, zQ, ym, yn, zr, yo, zt, zR, yp, zS, zp, zT, yq, zu, zU, zE, zV, zF]
    refine ⟨by omega, by omega, hR1 _ _ ⟨_, _, q0, q1, q2, q3, rfl, rfl⟩⟩
  rintro _ _ ⟨r, c, r0, r1, c0, c1, rfl, rfl⟩
  obtain ⟨k, hk⟩ : ∃ k : Cel, k = (Str.ofString "&", n / 288 % 512) := ⟨_, rfl⟩
  have okk : PyData.strOk (Str.ofString "&") = true := by decide +kernel
  refine yt (fun ρ' O' => ρ' = [some (.own x), some (.own d), some (.d (.int n)), some (.d (.int r)), some (.d (.int c))] ∧ Both O' C x dx p st kp d q { S with pic := setF S.pic r.toNat c.toNat k } S) (fun R1 hR1 => ?_) ?_
  · have hx := hb.s.x
    have e1 := y9 hb.s.p
    rw [xl] at e1
    have e2 : atI ((List.range S.h).map (W.row p)) r = some (W.row p r.toNat) := xa r0 r1
    have e3 := xI (c := k) hb.s.p (i := r.toNat) (k := c) (by omega) c0 c1
    rw [hk] at e3
    walk_at "wd"
    simp [hx, e1, e2, yP, xy, and_assoc, zh, T.st.cl, T.st.n_picture, T.st.n_wide, T.st.n_high, T.st.n_row, T.st.n_column, T.st.n_late, T.st.n_ink, T.st.n_wrap, T.st.n_putting, T.st.n_home, T.st.n_top, T.st.n_bottom, T.st.n_left, T.st.n_right, T.st.n_stops, T.st.n_kept, T.st.n_last, zv, z7, z9, yu, zy, ya, yv, yb, zw, yc, yw, zz, yd, zG, zH, ye, yf, yx, zA, yg, yy, yh, zx, yi, yz, zB, yj, zI, yk]
    refine ⟨_, e3, hR1 _ _ ⟨rfl, ?_⟩⟩
    rw [← hk]
    exact hb.st' (hb.s.pic (f := setF S.pic r.toNat c.toNat k)) But.up
  rintro _ O1 ⟨rfl, hb1⟩
  have hd := hb1.o.d
  have e1 := y9 hb1.o.q
  rw [xl] at e1
  have e2 : atI ((List.range S.h).map (W.row q)) r = some (W.row q r.toNat) := xa r0 r1
  have e3 := xI (c := k) hb1.o.q (i := r.toNat) (k := c) (by omega) c0 c1
  rw [hk] at e3
  walk_at "wd"
  simp [hd, e1, e2, yP, xy, and_assoc, zh, zK, zL, yl, zM, zC, zq, zD, zN, zo, zO, zP, zQ, ym, yn, zr, yo, zt, zR, yp, zS, zp, zT, yq, zu, zU, zE, zV, zF]
  refine ⟨_, e3, .inl (h { S with pic := setF S.pic r.toNat c.toNat k } _ ?_ hB.pic' ⟨by rw [hk]; exact PicOk.set hP.1 okk, hP.2⟩)⟩
  rw [← hk]
  exact hb1.ow' (hb1.o.pic (f := setF S.pic r.toNat c.toNat k)) But.up
theorem VQ (F : Fun K "_law_deed" "_law_deed" qD f fd) (T : Txt K mg C) (zfY : Cal P w K mg base 6 "_law_sign" [] (zb K (ZK C))) (zgr : Cal P w K mg base 5 "put_sign" [] (zb K (vN C))) (zfQ : Cal P w K mg base 5 "_law_line_end" [] (zb K (Qa C))) (zgm : Cal P w K mg base 4 "line_end" [] (zb K (ZD C)))
    (zfV : Cal P w K mg base 4 "_law_put" [] (zb K (ZJ C))) (zfH : Cal P w K mg base 5 "_law_done" [] (zb K (Qf C))) : FnOk P w K mg base CX0 7 f fd ["_law_state_here", "_law_own", "_law_number"] (zb K (XI C)) := by
  have nd := j6.nd
  apply F.okV j6 (by rintro _ _ _ ⟨x, dx, p, st, kp, d, q, S, n, rfl, _⟩; rfl) (fun cdv A outer sh H E hr => (za (zZ (i := 3) nd rfl (Or.inl rfl) (yM Xd zd (zg yH (pv 2) zc) (fun _ _ => rfl)))
      (za (zZ (i := 4) nd rfl (Or.inl rfl) (yM (yY (K := K) rfl) (za5 rfl) (zg yH (zg yF (pv 2) zc) zc) (fun _ _ => rfl)))
      (za (yA (zW yX (pv 3) zd (zJ _)) (za (zZ (i := 5) nd rfl (Or.inl rfl) (yM Xd zd (zg yH (zg yF (pv 2) zc) zc) (fun _ _ => rfl)))
      (za (yr (zj zfY (hr.mono (by decide)) rfl (QA.pa (qc (pv 1) (qc (pv 5) qn)))))
      (ze (zY (xi vB (zj zgr (hr.mono (by decide)) rfl (QA.pa (qc (pv 0) (qc (pv 5) qn)))) yZ (zJ _)))))) z0)
      (za (yA (zW yX (pv 3) zd (zJ _)) (za (yr (zj zfQ (hr.mono (by decide)) rfl (QA.pa (qc (pv 1) qn))))
      (ze (zY (xi vB (zj zgm (hr.mono (by decide)) rfl (QA.pa (qc (pv 0) qn))) yZ (zJ _))))) z0)
      (za (yI (zk hr) (pv 1) zd yW rfl)
      (za (yr (zj zfV (hr.mono (by decide)) rfl (QA.pa (qc (pv 1) (qc (pv 3) (qc (pv 4) qn))))))
      (ze (zY (xi vB (zj zfH (hr.mono (by decide)) rfl (QA.pa (qc (pv 0) (qc (pv 3) (qc (pv 4) qn))))) yZ (zJ _)))))))))))
  · walk_at "ref"
  rintro _ O R ⟨x, dx, p, st, kp, d, q, S, n, rfl, hn, hb, hB, hP, h⟩
  refine yt (fun ρ' O' => ∃ s : Str, ((∃ l : Lt, s = l.str) ∨ s = Str.ofString "S" ∨ s = Str.ofString "L") ∧ ρ' = [some (.own x), some (.own d), some (.d (.int n)), some (.d (.str s)), none, none] ∧ O = O') (fun R1 hR1 => ?_) ?_
  · walk_at "wd"
    have e : n % 16 = 0 ∨ n % 16 = 1 ∨ n % 16 = 2 ∨ n % 16 = 3 ∨ n % 16 = 4 ∨ n % 16 = 5 ∨ n % 16 = 6 ∨ n % 16 = 7 ∨ n % 16 = 8 ∨ n % 16 = 9 ∨ n % 16 = 10 ∨ n % 16 = 11 ∨ n % 16 = 12 ∨ n % 16 = 13 ∨ n % 16 = 14 ∨ n % 16 = 15 := by omega
    refine ⟨by rw [sizeLine_eq]; decide +kernel, ?_⟩
    rcases e with e | e | e | e | e | e | e | e | e | e | e | e | e | e | e | e <;> rw [e]
    · exact ⟨_, rfl, hR1 _ _ ⟨_, .inl ⟨.R, rfl⟩, rfl, rfl⟩⟩
    · exact ⟨_, rfl, hR1 _ _ ⟨_, .inl ⟨.D, rfl⟩, rfl, rfl⟩⟩
    · exact ⟨_, rfl, hR1 _ _ ⟨_, .inl ⟨.i, rfl⟩, rfl, rfl⟩⟩
    · exact ⟨_, rfl, hR1 _ _ ⟨_, .inl ⟨.k, rfl⟩, rfl, rfl⟩⟩
    · exact ⟨_, rfl, hR1 _ _ ⟨_, .inl ⟨.s, rfl⟩, rfl, rfl⟩⟩
    · exact ⟨_, rfl, hR1 _ _ ⟨_, .inl ⟨.s, rfl⟩, rfl, rfl⟩⟩
    · exact ⟨_, rfl, hR1 _ _ ⟨_, .inl ⟨.x, rfl⟩, rfl, rfl⟩⟩
    · exact ⟨_, rfl, hR1 _ _ ⟨_, .inl ⟨.x, rfl⟩, rfl, rfl⟩⟩
    · exact ⟨_, rfl, hR1 _ _ ⟨_, .inl ⟨.e, rfl⟩, rfl, rfl⟩⟩
    · exact ⟨_, rfl, hR1 _ _ ⟨_, .inl ⟨.w, rfl⟩, rfl, rfl⟩⟩
    · exact ⟨_, rfl, hR1 _ _ ⟨_, .inl ⟨.w, rfl⟩, rfl, rfl⟩⟩
    · exact ⟨_, rfl, hR1 _ _ ⟨_, .inr (.inl rfl), rfl, rfl⟩⟩
    · exact ⟨_, rfl, hR1 _ _ ⟨_, .inr (.inl rfl), rfl, rfl⟩⟩
    · exact ⟨_, rfl, hR1 _ _ ⟨_, .inr (.inl rfl), rfl, rfl⟩⟩
    · exact ⟨_, rfl, hR1 _ _ ⟨_, .inr (.inl rfl), rfl, rfl⟩⟩
    · exact ⟨_, rfl, hR1 _ _ ⟨_, .inr (.inr rfl), rfl, rfl⟩⟩
  rintro _ _ ⟨s, hs, rfl, rfl⟩
  refine yt (fun ρ' O' => ∃ m, xq m ∧ ρ' = [some (.own x), some (.own d), some (.d (.int n)), some (.d (.str s)), some (.d m), none] ∧ O = O') (fun R1 hR1 => ?_) ?_
  · walk_at "wd"
    have e : n / 16 % 8 = 0 ∨ n / 16 % 8 = 1 ∨ n / 16 % 8 = 2 ∨ n / 16 % 8 = 3 ∨ n / 16 % 8 = 4 ∨ n / 16 % 8 = 5 ∨ n / 16 % 8 = 6 ∨ n / 16 % 8 = 7 := by omega
    refine ⟨⟨by decide, by decide⟩, _, rfl, ?_⟩
    rcases e with e | e | e | e | e | e | e | e <;> rw [e]
    · exact ⟨_, rfl, hR1 _ _ ⟨.none, trivial, rfl, rfl⟩⟩
    · exact ⟨_, rfl, hR1 _ _ ⟨.int 0, ⟨by decide, by decide⟩, rfl, rfl⟩⟩
    · exact ⟨_, rfl, hR1 _ _ ⟨.int 1, ⟨by decide, by decide⟩, rfl, rfl⟩⟩
    · exact ⟨_, rfl, hR1 _ _ ⟨.int 2, ⟨by decide, by decide⟩, rfl, rfl⟩⟩
    · exact ⟨_, rfl, hR1 _ _ ⟨.int 3, ⟨by decide, by decide⟩, rfl, rfl⟩⟩
    · exact ⟨_, rfl, hR1 _ _ ⟨.int 4, ⟨by decide, by decide⟩, rfl, rfl⟩⟩
    · exact ⟨_, rfl, hR1 _ _ ⟨.int 5, ⟨by decide, by decide⟩, rfl, rfl⟩⟩
    · exact ⟨_, rfl, hR1 _ _ ⟨.int 999, ⟨by decide, by decide⟩, rfl, rfl⟩⟩
  rintro _ _ ⟨m, hm, rfl, rfl⟩
  rcases hs with ⟨l, rfl⟩ | rfl | rfl
  · have n1 : ¬ (l.str = Str.ofString "S") := by cases l <;> decide +kernel
    have n2 : ¬ (l.str = Str.ofString "L") := by cases l <;> decide +kernel
    have hd := hb.o.d
    have hb1 : Both (updO O d (.dK (ownW q { S with late := false }))) C x dx p st kp d q S { S with late := false } := hb.ow' (hb.o.fld rfl rfl rfl) But.ux
    have ee : ∀ q' O', Both O' C x dx p st kp d q' S { ({ S with late := false } : ST) with pic := vD l m { S with late := false } } → Both O' C x dx p st kp d q' S (jM l m S) := fun q' O' z => by
      have : vD l m { S with late := false } = vD l m S := by cases l <;> rfl
      rw [this] at z
      exact z
    walk_at "wd"
    simp [n1, n2, hd, xm, and_assoc, zh, zK, zL, yl, zM, zC, zq, zD, zN, zo, zO, zP, zQ, ym, yn, zr, yo, zt, zR, yp, zS, zp, zT, yq, zu, zU, zE, zV, zF]
    refine ⟨x, dx, p, st, kp, d, q, S, _, m, l, rfl, hm, hb1, { hB with }, fun q' O' k => ?_⟩
    have k := ee q' O' k
    exact ⟨x, dx, p, st, kp, S, m, l, rfl, hm, k.s, hB, fun O2 j1 j2 => .inl (h q' _ O2 (k.stO j1 j2) { hB with } (hP.eff hB))⟩
  · refine yt (fun ρ' O' => False) (fun R1 hR1 => ?_) (fun _ _ z => z.elim)
    walk_at "wd"
    have e : n / 128 % 8 = 0 ∨ n / 128 % 8 = 1 ∨ n / 128 % 8 = 2 ∨ n / 128 % 8 = 3 ∨ n / 128 % 8 = 4 ∨ n / 128 % 8 = 5 ∨ n / 128 % 8 = 6 ∨ n / 128 % 8 = 7 := by omega
    have key : ∀ c : Str, PyData.strOk c = true → ZK C [.own d, .d (.str c)] O fun _ O1 => vN C [.own x, .d (.str c)] O1 fun v O2 => Clo R (.d (.bool (xS v))) O2 := fun c hc =>
      ⟨x, dx, p, st, kp, d, q, S, S, c, rfl, hb, hB, fun q' O' k => ⟨c, x, dx, p, st, kp, S, rfl, k.s, hB, fun O2 j1 j2 => .inl (h q' _ O2 (k.st' j1 j2) hB.put (hP.put hB hc))⟩⟩
    refine ⟨⟨by decide, by decide⟩, by rw [sizeLine_eq]; decide +kernel, ?_⟩
    rcases e with e | e | e | e | e | e | e | e <;> rw [e] <;> exact ⟨_, rfl, key _ (by decide +kernel)⟩
  · have n2 : ¬ (Str.ofString "L" = Str.ofString "S") := by decide +kernel
    walk_at "wd"
    simp [n2]
    exact ⟨x, dx, p, st, kp, d, q, S, S, rfl, hb, hB, fun q' O' k1 => ⟨x, dx, p, st, kp, S, rfl, k1.s, hB, fun O2 j1 j2 => .inl (h q' _ O2 (k1.st' j1 j2) hB.lineE (hP.lineE hB))⟩⟩
end
theorem fk {K : PySem.W.Frag} {h : Heap} {mg : Str → Option Value} {x : Str} {st : Stmt} {f : Addr} {oc kV doc pm cd ct : Value} {od an : Option Addr} {sl : Array (Option Value)} (X : K.In h) (G : h.Ns mainGlobals mg)
    (a : PySem.W.nsIn K mainGlobals x = some (some (.ref f))) (l : K.lookup f = some ⟨oc, od, .func (PySem.W.fnOf x x (defArgs st) (defBody st) (defScope st) .none kV doc pm an cd ct), sl⟩) (c : PySem.W.codeIn K cd x = true) (k : PySem.W.keepIn K (.ref f) = true) :
    ∃ f fd, Fun K x x st f fd ∧ mg x = some (.ref f) := ⟨f, _, Xh (st := st) l c k, PySem.W.mg_of X G a⟩
theorem fkD {K : PySem.W.Frag} {h : Heap} {mg : Str → Option Value} {x : Str} {st : Stmt} {f D : Addr} {oc kV doc pm cd ct : Value} {od an : Option Addr} {sl : Array (Option Value)} {oD : Obj} {ds : List Value} {n : Nat} (X : K.In h) (G : h.Ns mainGlobals mg)
    (a : PySem.W.nsIn K mainGlobals x = some (some (.ref f))) (l : K.lookup f = some ⟨oc, od, .func (PySem.W.fnOf x x (defArgs st) (defBody st) (defScope st) (.ref D) kV doc pm an cd ct), sl⟩) (c : PySem.W.codeIn K cd x = true) (k : PySem.W.keepIn K (.ref f) = true)
    (t : K.lookup D = some oD) (e : oD.data = .seq ds.toArray n) : ∃ f fd, FunD K x x st ds f fd ∧ mg x = some (.ref f) := ⟨f, _, ⟨⟨oc, od, kV, doc, pm, an, cd, ct, sl, D, oD, n, rfl, l, c, t, e⟩, k⟩, PySem.W.mg_of X G a⟩
theorem mk_State {K : PySem.W.Frag} {C f : Addr} {oc kV doc pm cd ct : Value} {od an : Option Addr} {sl : Array (Option Value)} (mk : PySem.W.makesIn K C = true) (a1 : PySem.W.findIn K (.ref C) "__init__" = some (some (.ref f))) (i1 : PySem.W.isFn K (.ref f) = true) (kc : PySem.W.keepIn K (.ref C) = true)
    (l : K.lookup f = some ⟨oc, od, .func (PySem.W.fnOf "__init__" "State.__init__" (defArgs xb) (defBody xb) (defScope xb) .none kV doc pm an cd ct), sl⟩) (c : PySem.W.codeIn K cd "State.__init__" = true) (k : PySem.W.keepIn K (.ref f) = true) :
    ∃ f fd, Mk K C f ∧ Fun K "__init__" "State.__init__" xb f fd := ⟨f, _, ⟨mk, a1, i1, kc⟩, Xh (st := xb) l c k⟩
theorem mt_begin {K : PySem.W.Frag} {C f : Addr} {oc kV doc pm cd ct : Value} {od an : Option Addr} {sl : Array (Option Value)} (a1 : PySem.W.findIn K (.ref C) "begin" = some (some (.ref f))) (i1 : PySem.W.isFn K (.ref f) = true)
    (l : K.lookup f = some ⟨oc, od, .func (PySem.W.fnOf "begin" "State.begin" (defArgs xu) (defBody xu) (defScope xu) .none kV doc pm an cd ct), sl⟩) (c : PySem.W.codeIn K cd "State.begin" = true) (k : PySem.W.keepIn K (.ref f) = true) :
    ∃ f fd, Meth K C "begin" f ∧ Fun K "begin" "State.begin" xu f fd := ⟨f, _, ⟨a1, i1, k⟩, Xh (st := xu) l c k⟩
theorem Vo {K : PySem.W.Frag} {f : Addr} {fd : FuncData} {d : Value} (F : FunD K "blank_row" "blank_row" vp [d] f fd) : Binds K fd ["wide", "ink"] [] :=
  F.binds fun T kV doc pm an cdv ct us hl => match us, hl with | [_, _], _ => ⟨_, rfl, rfl⟩
theorem YM {K : PySem.W.Frag} {f : Addr} {fd : FuncData} {d : Value} (F : FunD K "blank_row" "blank_row" vp [d] f fd) : Binds K fd ["wide", "ink"] [d] :=
  F.binds fun T kV doc pm an cdv ct us hl => by
    have h2 : us.length = 1 := by simpa using hl
    match us, h2 with
    | [_], _ => exact ⟨_, rfl, rfl⟩
theorem k6 {K : PySem.W.Frag} {f : Addr} {fd : FuncData} {d : Value} (F : FunD K "blank_picture" "blank_picture" xE [d] f fd) : Binds K fd ["wide", "high", "ink"] [] :=
  F.binds fun T kV doc pm an cdv ct us hl => match us, hl with | [_, _, _], _ => ⟨_, rfl, rfl⟩
theorem kA {K : PySem.W.Frag} {f : Addr} {fd : FuncData} {d : Value} (F : FunD K "blank_picture" "blank_picture" xE [d] f fd) : Binds K fd ["wide", "high", "ink"] [d] :=
  F.binds fun T kV doc pm an cdv ct us hl => by
    have h2 : us.length = 2 := by simpa using hl
    match us, h2 with
    | [_, _], _ => exact ⟨_, rfl, rfl⟩
theorem Jx {K : PySem.W.Frag} {f : Addr} {fd : FuncData} {d : Value} (F : FunD K "ink_of" "ink_of" uQ [d] f fd) : Binds K fd ["fore", "back", "marks"] [] :=
  F.binds fun T kV doc pm an cdv ct us hl => match us, hl with | [_, _, _], _ => ⟨_, rfl, rfl⟩
theorem Qy {K : PySem.W.Frag} {f : Addr} {fd : FuncData} {d : Value} (F : FunD K "ink_of" "ink_of" uQ [d] f fd) : Binds K fd ["fore", "back", "marks"] [d] :=
  F.binds fun T kV doc pm an cdv ct us hl => by
    have h2 : us.length = 2 := by simpa using hl
    match us, h2 with
    | [_, _], _ => exact ⟨_, rfl, rfl⟩
theorem all_mk {P : Program} {w : World} {K : PySem.W.Frag} {mg : Str → Option Value} {fa C : Addr} (T : Txt K mg C) (hfa : mg "law" = some (.ref fa)) (e_State : ∃ f fd, Mk K C f ∧ Fun K "__init__" "State.__init__" xb f fd) (e_begin : ∃ f fd, Meth K C "begin" f ∧ Fun K "begin" "State.begin" xu f fd)
    (zhQ : ∃ f fd, Fun K "_law_cell_at" "_law_cell_at" vT f fd ∧ mg "_law_cell_at" = some (.ref f))
    (zh3 : ∃ f fd, Fun K "_law_mixed" "_law_mixed" uU f fd ∧ mg "_law_mixed" = some (.ref f))
    (zib : ∃ f fd, Fun K "_law_sizes" "_law_sizes" uV f fd ∧ mg "_law_sizes" = some (.ref f))
    (zhU : ∃ f fd, Fun K "_law_drawn_cells" "_law_drawn_cells" vc f fd ∧ mg "_law_drawn_cells" = some (.ref f))
    (zh6 : ∃ f fd, Fun K "_law_place" "_law_place" uX f fd ∧ mg "_law_place" = some (.ref f))
    (zh9 : ∃ f fd, Fun K "_law_right_edge" "_law_right_edge" vh f fd ∧ mg "_law_right_edge" = some (.ref f))
    (zh5 : ∃ f fd, Fun K "_law_own_by" "_law_own_by" uj f fd ∧ mg "_law_own_by" = some (.ref f))
    (ziv : ∃ f fd, Fun K "is_whole" "is_whole" je f fd ∧ mg "is_whole" = some (.ref f))
    (ziu : ∃ f fd, Fun K "is_size" "is_size" jR f fd ∧ mg "is_size" = some (.ref f))
    (zir : ∃ f fd, Fun K "first_stops" "first_stops" ug f fd ∧ mg "first_stops" = some (.ref f))
    (zie : ∃ f fd, Fun K "at_least_one" "at_least_one" vR f fd ∧ mg "at_least_one" = some (.ref f))
    (ziJ : ∃ f fd, Fun K "span" "span" X6 f fd ∧ mg "span" = some (.ref f))
    (zik : ∃ f fd, Fun K "counted" "counted" jS f fd ∧ mg "counted" = some (.ref f))
    (ziM : ∃ f fd, Fun K "to_place" "to_place" jh f fd ∧ mg "to_place" = some (.ref f))
    (ziK : ∃ f fd, Fun K "to_home" "to_home" jT f fd ∧ mg "to_home" = some (.ref f))
    (ziI : ∃ f fd, Fun K "set_rows" "set_rows" jk f fd ∧ mg "set_rows" = some (.ref f))
    (ziH : ∃ f fd, Fun K "set_columns" "set_columns" ui f fd ∧ mg "set_columns" = some (.ref f))
    (ziN : ∃ f fd, Fun K "turn_modes" "turn_modes" uT f fd ∧ mg "turn_modes" = some (.ref f))
    (zh1 : ∃ f fd, Fun K "_law_go_there" "_law_go_there" vE f fd ∧ mg "_law_go_there" = some (.ref f))
    (ziU : ∃ f fd, Fun K "with_mark" "with_mark" qq f fd ∧ mg "with_mark" = some (.ref f))
    (ziV : ∃ f fd, Fun K "without_mark" "without_mark" vP f fd ∧ mg "without_mark" = some (.ref f))
    (ziO : ∃ f fd, Fun K "turned_marks" "turned_marks" vQ f fd ∧ mg "turned_marks" = some (.ref f))
    (zif : ∃ f fd, Fun K "back_of" "back_of" jQ f fd ∧ mg "back_of" = some (.ref f))
    (ziy : ∃ f fd, Fun K "marks_of" "marks_of" jf f fd ∧ mg "marks_of" = some (.ref f))
    (ziT : ∃ f fd, Fun K "with_fore" "with_fore" qo f fd ∧ mg "with_fore" = some (.ref f))
    (zis : ∃ f fd, Fun K "fore_of" "fore_of" jP f fd ∧ mg "fore_of" = some (.ref f))
    (ziS : ∃ f fd, Fun K "with_back" "with_back" qp f fd ∧ mg "with_back" = some (.ref f))
    (zio : ∃ f fd, Fun K "dyed" "dyed" X7 f fd ∧ mg "dyed" = some (.ref f))
    (zin : ∃ f fd, Fun K "dye" "dye" Qp f fd ∧ mg "dye" = some (.ref f))
    (zhV : ∃ f fd, Fun K "_law_dyes" "_law_dyes" qz f fd ∧ mg "_law_dyes" = some (.ref f))
    (ziq : ∃ f fd, Fun K "edges" "edges" Ye f fd ∧ mg "edges" = some (.ref f))
    (ziL : ∃ f fd, Fun K "to_left_edge" "to_left_edge" vS f fd ∧ mg "to_left_edge" = some (.ref f))
    (zij : ∃ f fd, Fun K "copied" "copied" kX f fd ∧ mg "copied" = some (.ref f))
    (zig : ∃ f fd, Fun K "blank_of" "blank_of" jg f fd ∧ mg "blank_of" = some (.ref f))
    (ziF : ∃ f fd, Fun K "roll_rows" "roll_rows" qr f fd ∧ mg "roll_rows" = some (.ref f))
    (ziG : ∃ f fd, Fun K "roll_up" "roll_up" jV f fd ∧ mg "roll_up" = some (.ref f))
    (zix : ∃ f fd, Fun K "line_end" "line_end" ji f fd ∧ mg "line_end" = some (.ref f))
    (ziz : ∃ f fd, Fun K "move_cells" "move_cells" uR f fd ∧ mg "move_cells" = some (.ref f))
    (ziA : ∃ f fd, Fun K "put_cells" "put_cells" qw f fd ∧ mg "put_cells" = some (.ref f))
    (ziC : ∃ f fd, Fun K "put_sign" "put_sign" jj f fd ∧ mg "put_sign" = some (.ref f))
    (zic : ∃ f fd, Fun K "_law_state" "_law_state" uZ f fd ∧ mg "_law_state" = some (.ref f))
    (zh4 : ∃ f fd, Fun K "_law_most" "_law_most" qE f fd ∧ mg "_law_most" = some (.ref f))
    (zhR : ∃ f fd, Fun K "_law_changed" "_law_changed" vV f fd ∧ mg "_law_changed" = some (.ref f))
    (zhW : ∃ f fd, Fun K "_law_exchanged" "_law_exchanged" vx f fd ∧ mg "_law_exchanged" = some (.ref f))
    (zid : ∃ f fd, Fun K "_law_times" "_law_times" uW f fd ∧ mg "_law_times" = some (.ref f))
    (zhZ : ∃ f fd, Fun K "_law_from_rows" "_law_from_rows" vw f fd ∧ mg "_law_from_rows" = some (.ref f))
    (zhY : ∃ f fd, Fun K "_law_from_cells" "_law_from_cells" vj f fd ∧ mg "_law_from_cells" = some (.ref f))
    (zh0 : ∃ f fd, Fun K "_law_from_wiped" "_law_from_wiped" vk f fd ∧ mg "_law_from_wiped" = some (.ref f))
    (zhX : ∃ f fd, Fun K "_law_from" "_law_from" qA f fd ∧ mg "_law_from" = some (.ref f))
    (zh7 : ∃ f fd, Fun K "_law_put" "_law_put" jl f fd ∧ mg "_law_put" = some (.ref f))
    (zh2 : ∃ f fd, Fun K "_law_line_end" "_law_line_end" vF f fd ∧ mg "_law_line_end" = some (.ref f))
    (zia : ∃ f fd, Fun K "_law_sign" "_law_sign" qB f fd ∧ mg "_law_sign" = some (.ref f))
    (ziE : ∃ f fd, Fun K "roll_down" "roll_down" qt f fd ∧ mg "roll_down" = some (.ref f))
    (ziD : ∃ f fd, Fun K "roll" "roll" X0 f fd ∧ mg "roll" = some (.ref f))
    (ziB : ∃ f fd, Fun K "put_lines" "put_lines" qu f fd ∧ mg "put_lines" = some (.ref f))
    (zim : ∃ f fd, Fun K "cut_lines" "cut_lines" qv f fd ∧ mg "cut_lines" = some (.ref f))
    (zil : ∃ f fd, Fun K "cut_cells" "cut_cells" qy f fd ∧ mg "cut_cells" = some (.ref f))
    (ziR : ∃ f fd, Fun K "wipe_places" "wipe_places" uh f fd ∧ mg "wipe_places" = some (.ref f))
    (ziQ : ∃ f fd, Fun K "wipe_cells" "wipe_cells" uS f fd ∧ mg "wipe_cells" = some (.ref f))
    (ziP : ∃ f fd, Fun K "wipe" "wipe" X5 f fd ∧ mg "wipe" = some (.ref f))
    (zhT : ∃ f fd, Fun K "_law_done" "_law_done" qC f fd ∧ mg "_law_done" = some (.ref f))
    (zhS : ∃ f fd, Fun K "_law_deed" "_law_deed" qD f fd ∧ mg "_law_deed" = some (.ref f))
    (zh8 : ∃ f fd, Fun K "_law_right" "_law_right" u3 f fd ∧ mg "_law_right" = some (.ref f))
    (ziw : ∃ f fd, Fun K "law" "law" Qq f fd ∧ mg "law" = some (.ref f))
    (zii : ∃ t f fd, FunD K "blank_row" "blank_row" vp [.int 0 t] f fd ∧ mg "blank_row" = some (.ref f))
    (zih : ∃ t f fd, FunD K "blank_picture" "blank_picture" xE [.int 0 t] f fd ∧ mg "blank_picture" = some (.ref f))
    (zit : ∃ t f fd, FunD K "ink_of" "ink_of" uQ [.int 0 t] f fd ∧ mg "ink_of" = some (.ref f)) :
    ∃ fd : FuncData, (∀ (s : Shared) (v : Value), BindsTo s fd ⟨[v], []⟩ [("_law_script", v)]) ∧ ∀ base : Heap, K.In base → base.Ns mainGlobals mg → FnOk P w K mg base CX0 8 fa fd ["_law_script"] (zb K sLaw) := by
  obtain ⟨fS, dS, MS, FS⟩ := e_State
  obtain ⟨fB, dB, MB, FB⟩ := e_begin
  obtain ⟨ziW, zgL, zey, zj1⟩ := zhQ
  obtain ⟨zi9, zgY, zeL, zke⟩ := zh3
  obtain ⟨zjh, zg6, zeT, zkm⟩ := zib
  obtain ⟨zi0, zgP, zeC, zj5⟩ := zhU
  obtain ⟨zjc, zg1, zeO, zkh⟩ := zh6
  obtain ⟨zjf, zg4, zeR, zkk⟩ := zh9
  obtain ⟨zjb, zg0, zeN, zkg⟩ := zh5
  obtain ⟨zjA, zhp, zfc, zkF⟩ := ziv
  obtain ⟨zjz, zho, zfb, zkE⟩ := ziu
  obtain ⟨zjw, zhl, ze8, zkB⟩ := zir
  obtain ⟨zjk, zg9, zeW, zkp⟩ := zie
  obtain ⟨zjO, zhD, zfq, zkT⟩ := ziJ
  obtain ⟨zjq, zhf, ze2, zkv⟩ := zik
  obtain ⟨zjR, zhG, zft, zkW⟩ := ziM
  obtain ⟨zjP, zhE, zfr, zkU⟩ := ziK
  obtain ⟨zjN, zhC, zfp, zkS⟩ := ziI
  obtain ⟨zjM, zhB, zfo, zkR⟩ := ziH
  obtain ⟨zjS, zhH, zfu, zkX⟩ := ziN
  obtain ⟨zi7, zgW, zeJ, zkc⟩ := zh1
  obtain ⟨zjZ, zhO, zfB, zk4⟩ := ziU
  obtain ⟨zj0, zhP, zfC, zk5⟩ := ziV
  obtain ⟨zjT, zhI, zfv, zkY⟩ := ziO
  obtain ⟨zjl, zha, zeX, zkq⟩ := zif
  obtain ⟨zjD, zhs, zff, zkI⟩ := ziy
  obtain ⟨zjY, zhN, zfA, zk3⟩ := ziT
  obtain ⟨zjx, zhm, ze9, zkC⟩ := zis
  obtain ⟨zjX, zhM, zfz, zk2⟩ := ziS
  obtain ⟨zju, zhj, ze6, zkz⟩ := zio
  obtain ⟨zjt, zhi, ze5, zky⟩ := zin
  obtain ⟨zi1, zgQ, zeD, zj6⟩ := zhV
  obtain ⟨zjv, zhk, ze7, zkA⟩ := ziq
  obtain ⟨zjQ, zhF, zfs, zkV⟩ := ziL
  obtain ⟨zjp, zhe, ze1, zku⟩ := zij
  obtain ⟨zjm, zhb, zeY, zkr⟩ := zig
  obtain ⟨zjK, zhz, zfm, zkP⟩ := ziF
  obtain ⟨zjL, zhA, zfn, zkQ⟩ := ziG
  obtain ⟨zjC, zhr, zfe, zkH⟩ := zix
  obtain ⟨zjE, zht, zfg, zkJ⟩ := ziz
  obtain ⟨zjF, zhu, zfh, zkK⟩ := ziA
  obtain ⟨zjH, zhw, zfj, zkM⟩ := ziC
  obtain ⟨zji, zg7, zeU, zkn⟩ := zic
  obtain ⟨zja, zgZ, zeM, zkf⟩ := zh4
  obtain ⟨ziX, zgM, zez, zj2⟩ := zhR
  obtain ⟨zi2, zgR, zeE, zj7⟩ := zhW
  obtain ⟨zjj, zg8, zeV, zko⟩ := zid
  obtain ⟨zi5, zgU, zeH, zka⟩ := zhZ
  obtain ⟨zi4, zgT, zeG, zj9⟩ := zhY
  obtain ⟨zi6, zgV, zeI, zkb⟩ := zh0
  obtain ⟨zi3, zgS, zeF, zj8⟩ := zhX
  obtain ⟨zjd, zg2, zeP, zki⟩ := zh7
  obtain ⟨zi8, zgX, zeK, zkd⟩ := zh2
  obtain ⟨zjg, zg5, zeS, zkl⟩ := zia
  obtain ⟨zjJ, zhy, zfl, zkO⟩ := ziE
  obtain ⟨zjI, zhx, zfk, zkN⟩ := ziD
  obtain ⟨zjG, zhv, zfi, zkL⟩ := ziB
  obtain ⟨zjs, zhh, ze4, zkx⟩ := zim
  obtain ⟨zjr, zhg, ze3, zkw⟩ := zil
  obtain ⟨zjW, zhL, zfy, zk1⟩ := ziR
  obtain ⟨zjV, zhK, zfx, zk0⟩ := ziQ
  obtain ⟨zjU, zhJ, zfw, zkZ⟩ := ziP
  obtain ⟨ziZ, zgO, zeB, zj4⟩ := zhT
  obtain ⟨ziY, zgN, zeA, zj3⟩ := zhS
  obtain ⟨zje, zg3, zeQ, zkj⟩ := zh8
  obtain ⟨zjB, zhq, zfd, zkG⟩ := ziw
  obtain ⟨zk7, zjo, zhd, ze0, zkt⟩ := zii
  obtain ⟨zk6, zjn, zhc, zeZ, zks⟩ := zih
  obtain ⟨zk8, zjy, zhn, zfa, zkD⟩ := zit
  rw [hfa] at zkG
  cases zkG
  refine ⟨zhq, fun s v => ?_, fun base _ _ => ?_⟩
  · obtain ⟨oc, od, kV, doc, pm, an, cdv, ct, osl, rfl, _⟩ := zfd.ex
    exact .of_eq rfl
  have zfE : Cal P w K mg base 1 "_law_cell_at" [] (zb K km) := ⟨ziW, zgL, _, [], Yf zey T, zj1, zey.kp, zey.binds fun _ _ _ _ _ _ us hl => match us, hl with | [_, _], _ => rfl, .nil⟩
  have zfR : Cal P w K mg base 1 "_law_mixed" [] (zb K uN) := ⟨zi9, zgY, _, [], X9 zeL T, zke, zeL.kp, zeL.binds fun _ _ _ _ _ _ us hl => match us, hl with | [_, _], _ => rfl, .nil⟩
  have zfZ : Cal P w K mg base 2 "_law_sizes" [] (zb K XC) := ⟨zjh, zg6, _, [], Vk zeT T zfR, zkm, zeT.kp, zeT.binds fun _ _ _ _ _ _ us hl => match us, hl with | [_], _ => rfl, .nil⟩
  have zfI : Cal P w K mg base 2 "_law_drawn_cells" [] (zb K XD) := ⟨zi0, zgP, _, [], j8 zeC T zfR, zj5, zeC.kp, zeC.binds fun _ _ _ _ _ _ us hl => match us, hl with | [_, _, _], _ => rfl, .nil⟩
  have zfU : Cal P w K mg base 1 "_law_place" [] (zb K kn) := ⟨zjc, zg1, _, [], Vl zeO T, zkh, zeO.kp, zeO.binds fun _ _ _ _ _ _ us hl => match us, hl with | [_, _], _ => rfl, .nil⟩
  have zfX : Cal P w K mg base 1 "_law_right_edge" [] (zb K qL) := ⟨zjf, zg4, _, [], kq zeR T, zkk, zeR.kp, zeR.binds fun _ _ _ _ _ _ us hl => match us, hl with | [_], _ => rfl, .nil⟩
  have zfT : Cal P w K mg base 3 "_law_own_by" [] (zb K XG) := ⟨zjb, zg0, _, [], YL zeN T zfE zfR zfZ zfI zfU zfX, zkg, zeN.kp, zeN.binds fun _ _ _ _ _ _ us hl => match us, hl with | [_], _ => rfl, .nil⟩
  have zgl : Cal P w K mg base 1 "is_whole" [] (zb K Zx) := ⟨zjA, zhp, _, [], VD zfc T, zkF, zfc.kp, zfc.binds fun _ _ _ _ _ _ us hl => match us, hl with | [_, _, _], _ => rfl, .nil⟩
  have zgk : Cal P w K mg base 2 "is_size" [] (zb K UT) := ⟨zjz, zho, _, [], Qs zfb T zgl, zkE, zfb.kp, zfb.binds fun _ _ _ _ _ _ us hl => match us, hl with | [_, _], _ => rfl, .nil⟩
  have zf7 : Cal P w K mg base 1 "blank_row" [] (zb K qb) := ⟨zjo, zhd, _, [], j7 ze0 T, zkt, ze0.kp, Vo ze0, .nil⟩
  have zf8 : Cal P w K mg base 1 "blank_row" [.int 0] (zb K qb) := ⟨zjo, zhd, _, _, j7 ze0 T, zkt, ze0.kp, YM ze0, .cons ⟨zk7, rfl⟩ .nil⟩
  have zf5 : Cal P w K mg base 3 "blank_picture" [] (zb K qd) := ⟨zjn, zhc, _, [], u5 zeZ T zgk zf7, zks, zeZ.kp, k6 zeZ, .nil⟩
  have zf6 : Cal P w K mg base 3 "blank_picture" [.int 0] (zb K qd) := ⟨zjn, zhc, _, _, u5 zeZ T zgk zf7, zks, zeZ.kp, kA zeZ, .cons ⟨zk6, rfl⟩ .nil⟩
  have zgg : Cal P w K mg base 1 "first_stops" [] (zb K Xz) := ⟨zjw, zhl, _, [], Yi ze8 T, zkB, ze8.kp, ze8.binds fun _ _ _ _ _ _ us hl => match us, hl with | [_], _ => rfl, .nil⟩
  have zfD : CalT P w K mg base 2 "begin" C (zb K (XA C)) := ⟨fB, dB, _, T.st.cl, MB, Yj FB T zgg, FB.binds fun _ _ _ _ _ _ us hl => match us, hl with | [_], _ => rfl⟩
  have c_State : CalM P w K mg base 4 "State" C (zb K (U1 C)) := ⟨fS, dS, _, MS, YK FS T zf6 zfD, T.mgC, FS.binds fun _ _ _ _ _ _ us hl => match us, hl with | [_, _, _], _ => rfl⟩
  have zf2 : Cal P w K mg base 1 "at_least_one" [] (zb K uM) := ⟨zjk, zg9, _, [], ZR zeW T, zkp, zeW.kp, zeW.binds fun _ _ _ _ _ _ us hl => match us, hl with | [_], _ => rfl, .nil⟩
  have zgy : Cal P w K mg base 2 "span" [] (zb K Zy) := ⟨zjO, zhD, _, [], zbL zfq T zf2, zkT, zfq.kp, zfq.binds fun _ _ _ _ _ _ us hl => match us, hl with | [_, _, _], _ => rfl, .nil⟩
  have zga : Cal P w K mg base 2 "counted" [] (zb K ja) := ⟨zjq, zhf, _, [], Qr ze2 T zf2, zkv, ze2.kp, ze2.binds fun _ _ _ _ _ _ us hl => match us, hl with | [_, _, _], _ => rfl, .nil⟩
  have zgB : Cal P w K mg base 3 "to_place" [] (zb K (Zz C)) := ⟨zjR, zhG, _, [], VG zft T zga, zkW, zft.kp, zft.binds fun _ _ _ _ _ _ us hl => match us, hl with | [_, _, _], _ => rfl, .nil⟩
  have zgz : Cal P w K mg base 4 "to_home" [] (zb K (ZA C)) := ⟨zjP, zhE, _, [], Qv zfr T zgB, zkU, zfr.kp, zfr.binds fun _ _ _ _ _ _ us hl => match us, hl with | [_], _ => rfl, .nil⟩
  have zgx : Cal P w K mg base 5 "set_rows" [] (zb K (UU C)) := ⟨zjN, zhC, _, [], VH zfp T zgy zgz, zkS, zfp.kp, zfp.binds fun _ _ _ _ _ _ us hl => match us, hl with | [_, _, _], _ => rfl, .nil⟩
  have zgw : Cal P w K mg base 5 "set_columns" [] (zb K (UV C)) := ⟨zjM, zhB, _, [], Yg zfo T zgy zgz, zkR, zfo.kp, zfo.binds fun _ _ _ _ _ _ us hl => match us, hl with | [_, _, _], _ => rfl, .nil⟩
  have zgC : Cal P w K mg base 5 "turn_modes" [] (zb K (ZB C)) := ⟨zjS, zhH, _, [], YH zfu T zgz, zkX, zfu.kp, zfu.binds fun _ _ _ _ _ _ us hl => match us, hl with | [_, _, _], _ => rfl, .nil⟩
  have zfP : Cal P w K mg base 4 "_law_go_there" [] (zb K (sGo C)) := ⟨zi7, zgW, _, [], ZV zeJ T zgB, zkc, zeJ.kp, zeJ.binds fun _ _ _ _ _ _ us hl => match us, hl with | [_, _], _ => rfl, .nil⟩
  have zgJ : Cal P w K mg base 1 "with_mark" [] (zb K (sI2 (fun _ _ => True) fun i m => Builtin.bitOr i ((xJ [(0, 64), (1, 128), (2, 256)] m).getD 0))) := ⟨zjZ, zhO, _, [], Vb zfB T, zk4, zfB.kp, zfB.binds fun _ _ _ _ _ _ us hl => match us, hl with | [_, _], _ => rfl, .nil⟩
  have zgK : Cal P w K mg base 1 "without_mark" [] (zb K (sI2 (fun _ _ => True) fun i m => Builtin.bitAnd i (Builtin.bitNot ((xJ [(0, 64), (1, 128), (2, 256)] m).getD 0)))) := ⟨zj0, zhP, _, [], ZT zfC T, zk5, zfC.kp, zfC.binds fun _ _ _ _ _ _ us hl => match us, hl with | [_, _], _ => rfl, .nil⟩
  have zgD : Cal P w K mg base 1 "turned_marks" [] (zb K (sI1 (fun _ => True) fun i => Builtin.bitXor i 448)) := ⟨zjT, zhI, _, [], ZS zfv T, zkY, zfv.kp, zfv.binds fun _ _ _ _ _ _ us hl => match us, hl with | [_], _ => rfl, .nil⟩
  have zgi : Cal P w K mg base 1 "ink_of" [] (zb K qJ) := ⟨zjy, zhn, _, [], YC zfa T, zkD, zfa.kp, Jx zfa, .nil⟩
  have zgj : Cal P w K mg base 1 "ink_of" [.int 0] (zb K qJ) := ⟨zjy, zhn, _, _, YC zfa T, zkD, zfa.kp, Qy zfa, .cons ⟨zk8, rfl⟩ .nil⟩
  have zf3 : Cal P w K mg base 1 "back_of" [] (zb K (sI1 (fun _ => True) fun i => Builtin.bitAnd (i / 8) 7)) := ⟨zjl, zha, _, [], Qu zeX T, zkq, zeX.kp, zeX.binds fun _ _ _ _ _ _ us hl => match us, hl with | [_], _ => rfl, .nil⟩
  have zgn : Cal P w K mg base 1 "marks_of" [] (zb K (sI1 (fun _ => True) fun i => Builtin.bitAnd (i / 64) 7)) := ⟨zjD, zhs, _, [], VE zff T, zkI, zff.kp, zff.binds fun _ _ _ _ _ _ us hl => match us, hl with | [_], _ => rfl, .nil⟩
  have zgI : Cal P w K mg base 2 "with_fore" [] (zb K (sI2 (fun i _ => Ink i) fun i h => h + 8 * Builtin.bitAnd (i / 8) 7 + 64 * Builtin.bitAnd (i / 64) 7)) := ⟨zjY, zhN, _, [], Vc zfA T zgi zf3 zgn, zk3, zfA.kp, zfA.binds fun _ _ _ _ _ _ us hl => match us, hl with | [_, _], _ => rfl, .nil⟩
  have zgh : Cal P w K mg base 1 "fore_of" [] (zb K (sI1 (fun _ => True) fun i => Builtin.bitAnd i 7)) := ⟨zjx, zhm, _, [], Qt ze9 T, zkC, ze9.kp, ze9.binds fun _ _ _ _ _ _ us hl => match us, hl with | [_], _ => rfl, .nil⟩
  have zgH : Cal P w K mg base 2 "with_back" [] (zb K (sI2 (fun i h => Ink i ∧ 0 ≤ h ∧ h ≤ 10) fun i h => Builtin.bitAnd i 7 + 8 * h + 64 * Builtin.bitAnd (i / 64) 7)) := ⟨zjX, zhM, _, [], Vd zfz T zgi zgh zgn, zk2, zfz.kp, zfz.binds fun _ _ _ _ _ _ us hl => match us, hl with | [_, _], _ => rfl, .nil⟩
  have zge : Cal P w K mg base 3 "dyed" [] (zb K YW) := ⟨zju, zhj, _, [], zbM ze6 T zgJ zgK zgD zgI zgH, zkz, ze6.kp, ze6.binds fun _ _ _ _ _ _ us hl => match us, hl with | [_, _], _ => rfl, .nil⟩
  have zgd : Cal P w K mg base 4 "dye" [] (zb K (UW C)) := ⟨zjt, zhi, _, [], zdo ze5 T zge, zky, ze5.kp, ze5.binds fun _ _ _ _ _ _ us hl => match us, hl with | [_, _], _ => rfl, .nil⟩
  have zfJ : Cal P w K mg base 1 "_law_dyes" [] (zb K Y2) := ⟨zi1, zgQ, _, [], VL zeD T, zj6, zeD.kp, zeD.binds fun _ _ _ _ _ _ us hl => match us, hl with | [_], _ => rfl, .nil⟩
  have zgf : Cal P w K mg base 1 "edges" [] (zb K (jJ C)) := ⟨zjv, zhk, _, [], KR ze7 T, zkA, ze7.kp, ze7.binds fun _ _ _ _ _ _ us hl => match us, hl with | [_], _ => rfl, .nil⟩
  have zgA : Cal P w K mg base 2 "to_left_edge" [] (zb K (U0 C)) := ⟨zjQ, zhF, _, [], ZU zfs T zgf, zkV, zfs.kp, zfs.binds fun _ _ _ _ _ _ us hl => match us, hl with | [_], _ => rfl, .nil⟩
  have zf9 : Cal P w K mg base 1 "copied" [] (zb K Z8) := ⟨zjp, zhe, _, [], Jw ze1 T, zku, ze1.kp, ze1.binds fun _ _ _ _ _ _ us hl => match us, hl with | [_], _ => rfl, .nil⟩
  have zf4 : Cal P w K mg base 1 "blank_of" [] (zb K (uO C)) := ⟨zjm, zhb, _, [], VF zeY T, zkr, zeY.kp, zeY.binds fun _ _ _ _ _ _ us hl => match us, hl with | [_], _ => rfl, .nil⟩
  have zgu : Cal P w K mg base 2 "roll_rows" [] (zb K (uq C)) := ⟨zjK, zhz, _, [], Ve zfm T zf9 zf4, zkP, zfm.kp, zfm.binds fun _ _ _ _ _ _ us hl => match us, hl with | [_, _, _], _ => rfl, .nil⟩
  have zgv : Cal P w K mg base 3 "roll_up" [] (zb K (uq C)) := ⟨zjL, zhA, _, [], Qw zfn T zgu, zkQ, zfn.kp, zfn.binds fun _ _ _ _ _ _ us hl => match us, hl with | [_, _, _], _ => rfl, .nil⟩
  have zgm : Cal P w K mg base 4 "line_end" [] (zb K (ZD C)) := ⟨zjC, zhr, _, [], VI zfe T zgA zgv, zkH, zfe.kp, zfe.binds fun _ _ _ _ _ _ us hl => match us, hl with | [_], _ => rfl, .nil⟩
  have zgo : Cal P w K mg base 2 "move_cells" [] (zb K (UZ C)) := ⟨zjE, zht, _, [], YI zfg T zgf zf4, zkJ, zfg.kp, zfg.binds fun _ _ _ _ _ _ us hl => match us, hl with | [_, _], _ => rfl, .nil⟩
  have zgp : Cal P w K mg base 3 "put_cells" [] (zb K (Y0 C)) := ⟨zjF, zhu, _, [], Vf zfh T zf2 zgo, zkK, zfh.kp, zfh.binds fun _ _ _ _ _ _ us hl => match us, hl with | [_, _], _ => rfl, .nil⟩
  have zgr : Cal P w K mg base 5 "put_sign" [] (zb K (vN C)) := ⟨zjH, zhw, _, [], VJ zfj T zgm zgp zgf, zkM, zfj.kp, zfj.binds fun _ _ _ _ _ _ us hl => match us, hl with | [_, _], _ => rfl, .nil⟩
  have zf0 : Cal P w K mg base 6 "_law_state" [] (zb K (XH C)) := ⟨zji, zg7, _, [], Vm zeU T c_State zgx zgw zgC zfP zgd zfJ zgr, zkn, zeU.kp, zeU.binds fun _ _ _ _ _ _ us hl => match us, hl with | [_], _ => rfl, .nil⟩
  have zfS : Cal P w K mg base 1 "_law_most" [] (zb K U8) := ⟨zja, zgZ, _, [], VM zeM T, zkf, zeM.kp, zeM.binds fun _ _ _ _ _ _ us hl => match us, hl with | [_], _ => rfl, .nil⟩
  have zfF : Cal P w K mg base 6 "_law_changed" [] (zb K (kT C)) := ⟨ziX, zgM, _, [], Yk zez T zfU zfX zgC zfP zgd zfJ zgr, zj2, zez.kp, zez.binds fun _ _ _ _ _ _ us hl => match us, hl with | [_, _, _], _ => rfl, .nil⟩
  have zfK : Cal P w K mg base 1 "_law_exchanged" [] (zb K (Qh C)) := ⟨zi2, zgR, _, [], kZ zeE T, zj7, zeE.kp, zeE.binds fun _ _ _ _ _ _ us hl => match us, hl with | [_, _, _], _ => rfl, .nil⟩
  have zf1 : Cal P w K mg base 1 "_law_times" [] (zb K Zw) := ⟨zjj, zg8, _, [], Va zeV T, zko, zeV.kp, zeV.binds fun _ _ _ _ _ _ us hl => match us, hl with | [_], _ => rfl, .nil⟩
  have zfN : Cal P w K mg base 1 "_law_from_rows" [] (zb K jN) := ⟨zi5, zgU, _, [], kY zeH T, zka, zeH.kp, zeH.binds fun _ _ _ _ _ _ us hl => match us, hl with | [_, _, _, _, _], _ => rfl, .nil⟩
  have zfM : Cal P w K mg base 2 "_law_from_cells" [] (zb K XO) := ⟨zi4, zgT, _, [], ku zeG T zfX, zj9, zeG.kp, zeG.binds fun _ _ _ _ _ _ us hl => match us, hl with | [_, _, _, _], _ => rfl, .nil⟩
  have zfO : Cal P w K mg base 1 "_law_from_wiped" [] (zb K XQ) := ⟨zi6, zgV, _, [], kz zeI T, zkb, zeI.kp, zeI.binds fun _ _ _ _ _ _ us hl => match us, hl with | [_, _, _, _], _ => rfl, .nil⟩
  have zfL : Cal P w K mg base 3 "_law_from" [] (zb K Qg) := ⟨zi3, zgS, _, [], VN zeF T zf1 zfN zfM zfO, zj8, zeF.kp, zeF.binds fun _ _ _ _ _ _ us hl => match us, hl with | [_, _, _, _, _], _ => rfl, .nil⟩
  have zfV : Cal P w K mg base 4 "_law_put" [] (zb K (ZJ C)) := ⟨zjd, zg2, _, [], Qx zeP T zfL, zki, zeP.kp, zeP.binds fun _ _ _ _ _ _ us hl => match us, hl with | [_, _, _], _ => rfl, .nil⟩
  have zfQ : Cal P w K mg base 5 "_law_line_end" [] (zb K (Qa C)) := ⟨zi8, zgX, _, [], ZW zeK T zfV, zkd, zeK.kp, zeK.binds fun _ _ _ _ _ _ us hl => match us, hl with | [_], _ => rfl, .nil⟩
  have zfY : Cal P w K mg base 6 "_law_sign" [] (zb K (ZK C)) := ⟨zjg, zg5, _, [], VO zeS T zfQ zfV zfX, zkl, zeS.kp, zeS.binds fun _ _ _ _ _ _ us hl => match us, hl with | [_, _], _ => rfl, .nil⟩
  have zgt : Cal P w K mg base 3 "roll_down" [] (zb K (ZC C)) := ⟨zjJ, zhy, _, [], Vg zfl T zgu, zkO, zfl.kp, zfl.binds fun _ _ _ _ _ _ us hl => match us, hl with | [_, _, _], _ => rfl, .nil⟩
  have zgs : Cal P w K mg base 4 "roll" [] (zb K (XJ C)) := ⟨zjI, zhx, _, [], zbN zfk T zf2 zgv zgt, zkN, zfk.kp, zfk.binds fun _ _ _ _ _ _ us hl => match us, hl with | [_, _, _], _ => rfl, .nil⟩
  have zgq : Cal P w K mg base 4 "put_lines" [] (zb K (UX C)) := ⟨zjG, zhv, _, [], Vh zfi T zf2 zgt, zkL, zfi.kp, zfi.binds fun _ _ _ _ _ _ us hl => match us, hl with | [_, _], _ => rfl, .nil⟩
  have zgc : Cal P w K mg base 4 "cut_lines" [] (zb K (UY C)) := ⟨zjs, zhh, _, [], Vi ze4 T zf2 zgv, zkx, ze4.kp, ze4.binds fun _ _ _ _ _ _ us hl => match us, hl with | [_, _], _ => rfl, .nil⟩
  have zgb : Cal P w K mg base 3 "cut_cells" [] (zb K (Qb C)) := ⟨zjr, zhg, _, [], Vj ze3 T zf2 zgo, zkw, ze3.kp, ze3.binds fun _ _ _ _ _ _ us hl => match us, hl with | [_, _], _ => rfl, .nil⟩
  have zgG : Cal P w K mg base 2 "wipe_places" [] (zb K (Y3 C)) := ⟨zjW, zhL, _, [], Yh zfy T zf4, zk1, zfy.kp, zfy.binds fun _ _ _ _ _ _ us hl => match us, hl with | [_, _, _], _ => rfl, .nil⟩
  have zgF : Cal P w K mg base 3 "wipe_cells" [] (zb K (Qc C)) := ⟨zjV, zhK, _, [], YJ zfx T zf2 zgG, zk0, zfx.kp, zfx.binds fun _ _ _ _ _ _ us hl => match us, hl with | [_, _], _ => rfl, .nil⟩
  have zgE : Cal P w K mg base 3 "wipe" [] (zb K (Qd C)) := ⟨zjU, zhJ, _, [], zbO zfw T zgG, zkZ, zfw.kp, zfw.binds fun _ _ _ _ _ _ us hl => match us, hl with | [_, _], _ => rfl, .nil⟩
  have zfH : Cal P w K mg base 5 "_law_done" [] (zb K (Qf C)) := ⟨ziZ, zgO, _, [], VP zeB T zgs zgq zgc zgp zgb zgF zgE, zj4, zeB.kp, zeB.binds fun _ _ _ _ _ _ us hl => match us, hl with | [_, _, _], _ => rfl, .nil⟩
  have zfG : Cal P w K mg base 7 "_law_deed" [] (zb K (XI C)) := ⟨ziY, zgN, _, [], VQ zeA T zfY zgr zfQ zgm zfV zfH, zj3, zeA.kp, zeA.binds fun _ _ _ _ _ _ us hl => match us, hl with | [_, _, _], _ => rfl, .nil⟩
  have zfW : Cal P w K mg base 1 "_law_right" [] (zb K (ZH C)) := ⟨zje, zg3, _, [], Vn zeQ T, zkj, zeQ.kp, zeQ.binds fun _ _ _ _ _ _ us hl => match us, hl with | [_, _], _ => rfl, .nil⟩
  exact zdp zfd T zfT zf0 zfS zfR zfF zfK zfG zfW
theorem txt_mk {K : PySem.W.Frag} {h : Heap} {mg : Str → Option Value} {C aB : Addr} {t_WIDEST t_HIGHEST t_TAB_STEP t_ALL_MARKS : Tok} (X : K.In h) (G : h.Ns mainGlobals mg)
    (n_len : PySem.W.nsIn K mainGlobals "len" = some none)
    (n_range : PySem.W.nsIn K mainGlobals "range" = some none)
    (n_int : PySem.W.nsIn K mainGlobals "int" = some none)
    (n_bool : PySem.W.nsIn K mainGlobals "bool" = some none)
    (n_dict : PySem.W.nsIn K mainGlobals "dict" = some none)
    (n_list : PySem.W.nsIn K mainGlobals "list" = some none)
    (n_tuple : PySem.W.nsIn K mainGlobals "tuple" = some none)
    (n_isinstance : PySem.W.nsIn K mainGlobals "isinstance" = some none)
    (n_sorted : PySem.W.nsIn K mainGlobals "sorted" = some none)
    (n_min : PySem.W.nsIn K mainGlobals "min" = some none)
    (n_max : PySem.W.nsIn K mainGlobals "max" = some none)
    (g_WIDEST : PySem.W.nsIn K mainGlobals "WIDEST" = some (some (.int 24 t_WIDEST)))
    (g_HIGHEST : PySem.W.nsIn K mainGlobals "HIGHEST" = some (some (.int 12 t_HIGHEST)))
    (g_TAB_STEP : PySem.W.nsIn K mainGlobals "TAB_STEP" = some (some (.int 4 t_TAB_STEP)))
    (g_ALL_MARKS : PySem.W.nsIn K mainGlobals "ALL_MARKS" = some (some (.int 448 t_ALL_MARKS)))
    (g_B : PySem.W.nsIn K mainGlobals "BITS_BY_MARK" = some (some (.ref aB))) (d_B : DK K aB [(0, 64), (1, 128), (2, 256)])
    (aC : PySem.W.nsIn K mainGlobals "State" = some (some (.ref C)))
    (pg : PySem.W.plainGet K C Str.empty = true) (hd : PySem.W.hasDictIn K C = true) (po : PySem.W.plainOver K C = true) (sa : PySem.W.findIn K (.ref C) "__setattr__" = some (some (.builtin "object.__setattr__")))
    (a_picture : PySem.W.findIn K (.ref C) "picture" = some none)
    (a_wide : PySem.W.findIn K (.ref C) "wide" = some none)
    (a_high : PySem.W.findIn K (.ref C) "high" = some none)
    (a_row : PySem.W.findIn K (.ref C) "row" = some none)
    (a_column : PySem.W.findIn K (.ref C) "column" = some none)
    (a_late : PySem.W.findIn K (.ref C) "late" = some none)
    (a_ink : PySem.W.findIn K (.ref C) "ink" = some none)
    (a_wrap : PySem.W.findIn K (.ref C) "wrap" = some none)
    (a_putting : PySem.W.findIn K (.ref C) "putting" = some none)
    (a_home : PySem.W.findIn K (.ref C) "home" = some none)
    (a_top : PySem.W.findIn K (.ref C) "top" = some none)
    (a_bottom : PySem.W.findIn K (.ref C) "bottom" = some none)
    (a_left : PySem.W.findIn K (.ref C) "left" = some none)
    (a_right : PySem.W.findIn K (.ref C) "right" = some none)
    (a_stops : PySem.W.findIn K (.ref C) "stops" = some none)
    (a_kept : PySem.W.findIn K (.ref C) "kept" = some none)
    (a_last : PySem.W.findIn K (.ref C) "last" = some none)
    : Txt K mg C :=
  ⟨PySem.W.mg_none_of X G n_len, PySem.W.mg_none_of X G n_range, PySem.W.mg_none_of X G n_int, PySem.W.mg_none_of X G n_bool, PySem.W.mg_none_of X G n_dict, PySem.W.mg_none_of X G n_list, PySem.W.mg_none_of X G n_tuple, PySem.W.mg_none_of X G n_isinstance, PySem.W.mg_none_of X G n_sorted, PySem.W.mg_none_of X G n_min, PySem.W.mg_none_of X G n_max, ⟨t_WIDEST, PySem.W.mg_of X G g_WIDEST⟩, ⟨t_HIGHEST, PySem.W.mg_of X G g_HIGHEST⟩, ⟨t_TAB_STEP, PySem.W.mg_of X G g_TAB_STEP⟩, ⟨t_ALL_MARKS, PySem.W.mg_of X G g_ALL_MARKS⟩, ⟨aB, PySem.W.mg_of X G g_B, d_B⟩, PySem.W.mg_of X G aC, ⟨⟨pg, hd, po, sa⟩, a_picture, a_wide, a_high, a_row, a_column, a_late, a_ink, a_wrap, a_putting, a_home, a_top, a_bottom, a_left, a_right, a_stops, a_kept, a_last⟩⟩
end K16
noncomputable def PySem.W.Fast.tw15041369612064412705 : Unit := ()
noncomputable def PySem.W.Fast.tw10811042550221910443 : Unit := ()
noncomputable def PySem.W.Fast.tw11014893195014235504 : Unit := ()
noncomputable def PySem.W.Fast.tw5609286216835900629 : Unit := ()
noncomputable def PySem.W.Fast.tw8009520585610277232 : Unit := ()
noncomputable def PySem.W.Fast.tw16675658721377619491 : Unit := ()
noncomputable def PySem.W.Fast.tw18137157149073804293 : Unit := ()
noncomputable def PySem.W.Fast.tw15200110926418586666 : Unit := ()
noncomputable def PySem.W.Fast.tw17821153709977413746 : Unit := ()
noncomputable def PySem.W.Fast.tw17532951532955700604 : Unit := ()
noncomputable def PySem.W.Fast.tw11393324037725502547 : Unit := ()
noncomputable def PySem.W.Fast.tw2579462026896289222 : Unit := ()
noncomputable def PySem.W.Fast.tw5434963001823918841 : Unit := ()
noncomputable def PySem.W.Fast.tw1554255890894680920 : Unit := ()
noncomputable def PySem.W.Fast.tw17574787251835519072 : Unit := ()
noncomputable def PySem.W.Fast.tw2774839219235999291 : Unit := ()
noncomputable def PySem.W.Fast.tw16578724872359656550 : Unit := ()
noncomputable def PySem.W.Fast.tw7409514597319808844 : Unit := ()
noncomputable def PySem.W.Fast.tw1668673111844158683 : Unit := ()
noncomputable def PySem.W.Fast.tw12002799310682618060 : Unit := ()
noncomputable def PySem.W.Fast.tw573374887954827832 : Unit := ()
noncomputable def PySem.W.Fast.tw16530501589593901968 : Unit := ()
noncomputable def PySem.W.Fast.tw13937573697512623685 : Unit := ()
noncomputable def PySem.W.Fast.tw6254210221993672219 : Unit := ()
noncomputable def PySem.W.Fast.tw11647805579567729287 : Unit := ()
noncomputable def PySem.W.Fast.tw6404164846016222906 : Unit := ()
noncomputable def PySem.W.Fast.tw13252205042781640735 : Unit := ()
noncomputable def PySem.W.Fast.tw12838424414035517830 : Unit := ()
noncomputable def PySem.W.Fast.tw2808242015621454052 : Unit := ()
noncomputable def PySem.W.Fast.tw15976964358925575628 : Unit := ()
noncomputable def PySem.W.Fast.tw7718031202136452240 : Unit := ()
noncomputable def PySem.W.Fast.tw5316622292102747078 : Unit := ()
noncomputable def PySem.W.Fast.tw12043391605372342180 : Unit := ()
noncomputable def PySem.W.Fast.tw5617270076618212255 : Unit := ()
noncomputable def PySem.W.Fast.tw17636483922675510394 : Unit := ()
noncomputable def PySem.W.Fast.tw18270165682042171121 : Unit := ()
noncomputable def PySem.W.Fast.tw10849275644526840668 : Unit := ()
noncomputable def PySem.W.Fast.tw1509148061914403956 : Unit := ()
noncomputable def PySem.W.Fast.tw16296248484395216219 : Unit := ()
noncomputable def PySem.W.Fast.tw171904367414419969 : Unit := ()
noncomputable def PySem.W.Fast.tw8457877319468194940 : Unit := ()
noncomputable def PySem.W.Fast.tw8493227912808452083 : Unit := ()
noncomputable def PySem.W.Fast.tw2264332347383288570 : Unit := ()
noncomputable def PySem.W.Fast.tw15801707229611880872 : Unit := ()
noncomputable def PySem.W.Fast.tw9841475500453789673 : Unit := ()
noncomputable def PySem.W.Fast.tw11335872490090512530 : Unit := ()
noncomputable def PySem.W.Fast.tw10288202569593276743 : Unit := ()
noncomputable def PySem.W.Fast.tw16602859970065131011 : Unit := ()
noncomputable def PySem.W.Fast.tw6716606354462969986 : Unit := ()
noncomputable def PySem.W.Fast.tw6217756388372251330 : Unit := ()
noncomputable def PySem.W.Fast.tw4207827023639569580 : Unit := ()
noncomputable def PySem.W.Fast.tw5608939141372831268 : Unit := ()
noncomputable def PySem.W.Fast.tw4353469714955788601 : Unit := ()
noncomputable def PySem.W.Fast.tw13260052751946730787 : Unit := ()
noncomputable def PySem.W.Fast.tw14049945056090899851 : Unit := ()
noncomputable def PySem.W.Fast.tw14724661201437045970 : Unit := ()
noncomputable def PySem.W.Fast.tw6100927251315576990 : Unit := ()
noncomputable def PySem.W.Fast.tw16212118257595838935 : Unit := ()
noncomputable def PySem.W.Fast.tw17212737709944236195 : Unit := ()
noncomputable def PySem.W.Fast.tw1487291690284143228 : Unit := ()
noncomputable def PySem.W.Fast.tw12383685396246239431 : Unit := ()
noncomputable def PySem.W.Fast.tw18129084692029281111 : Unit := ()
noncomputable def PySem.W.Fast.tw10720231219505173863 : Unit := ()
noncomputable def PySem.W.Fast.tw2259979955517306243 : Unit := ()
noncomputable def PySem.W.Fast.tw14594761012895881411 : Unit := ()
noncomputable def PySem.W.Fast.tw15327862384756609679 : Unit := ()
noncomputable def PySem.W.Fast.tw7011485873052688897 : Unit := ()
noncomputable def PySem.W.Fast.tw17209798212546291206 : Unit := ()
noncomputable def PySem.W.Fast.tw16577254434060080226 : Unit := ()
noncomputable def PySem.W.Fast.tw16231234968176282135 : Unit := ()
noncomputable def PySem.W.Fast.tw4499693344400347835 : Unit := ()
noncomputable def PySem.W.Fast.tw12101967977082190403 : Unit := ()
noncomputable def PySem.W.Fast.tw7207623269357713444 : Unit := ()
noncomputable def PySem.W.Fast.tw16271558615385505313 : Unit := ()
noncomputable def PySem.W.Fast.tw14875913327643400163 : Unit := ()
noncomputable def PySem.W.Fast.tw14536167486128231232 : Unit := ()
noncomputable def PySem.W.Fast.tw9742564876622750923 : Unit := ()
noncomputable def PySem.W.Fast.tw9268476968571091833 : Unit := ()
noncomputable def PySem.W.Fast.tw11003877946070953600 : Unit := ()
noncomputable def PySem.W.Fast.tw14206027534389814722 : Unit := ()
noncomputable def PySem.W.Fast.tw8032036368872357213 : Unit := ()
noncomputable def PySem.W.Fast.tw9701688484057722635 : Unit := ()
noncomputable def PySem.W.Fast.tw18035424623515270324 : Unit := ()
noncomputable def PySem.W.Fast.tw8627346989267054761 : Unit := ()
noncomputable def PySem.W.Fast.tw6222642678805610229 : Unit := ()
noncomputable def PySem.W.Fast.tw7938334359435650316 : Unit := ()
noncomputable def PySem.W.Fast.tw13209341100030099893 : Unit := ()
noncomputable def PySem.W.Fast.tw6442212865380834888 : Unit := ()
noncomputable def PySem.W.Fast.tw8020602473409759918 : Unit := ()
open PySem PySem.W PyProof.Rows
set_option maxRecDepth 100000 in
set_option maxHeartbeats 0 in
theorem PySem.Challenge.cw_signscreen_k16_whole_cells_kept_holds : PySem.Challenge.rw_signscreen_k16_whole_cells_kept.Holds := by
  w_on; o_law; k_head; (case hw => w_witness2)
  k_fill
  refine L2.walkW (l := PySem.Challenge.rw_signscreen_k16_whole_cells_kept) (n := 63) (k := 8) (x := "_law_script") (s := L2.sLaw) rfl (by decide) rfl ⟨rfl, by decide, by decide, rfl⟩ (fun w h Y => PySem.W.kIn_of Y) ?F (fun ns O R hl hb hR => ⟨ns, rfl, fun n h => (hb n h).mono (by decide), hl, hR⟩)
  case F =>
    intro w mg fa h KX G hmg
    refine' K16.all_mk ?T hmg ?e_State ?e_begin ?zhQ ?zh3 ?zib ?zhU ?zh6 ?zh9 ?zh5 ?ziv ?ziu ?zir ?zie ?ziJ ?zik ?ziM ?ziK ?ziI ?ziH ?ziN ?zh1 ?ziU ?ziV ?ziO ?zif ?ziy ?ziT ?zis ?ziS ?zio ?zin ?zhV ?ziq ?ziL ?zij ?zig ?ziF ?ziG ?zix ?ziz ?ziA ?ziC ?zic ?zh4 ?zhR ?zhW ?zid ?zhZ ?zhY ?zh0 ?zhX ?zh7 ?zh2 ?zia ?ziE ?ziD ?ziB ?zim ?zil ?ziR ?ziQ ?ziP ?zhT ?zhS ?zh8 ?ziw ?zii ?zih ?zit
    case T =>
      refine' K16.txt_mk KX G ?n_len ?n_range ?n_int ?n_bool ?n_dict ?n_list ?n_tuple ?n_isinstance ?n_sorted ?n_min ?n_max ?g_WIDEST ?g_HIGHEST ?g_TAB_STEP ?g_ALL_MARKS ?g_B ?d_B ?aC ?pg ?hd ?po ?sa ?a_picture ?a_wide ?a_high ?a_row ?a_column ?a_late ?a_ink ?a_wrap ?a_putting ?a_home ?a_top ?a_bottom ?a_left ?a_right ?a_stops ?a_kept ?a_last
      (case n_len => k_is)
      (case n_range => k_is)
      (case n_int => k_is)
      (case n_bool => k_is)
      (case n_dict => k_is)
      (case n_list => k_is)
      (case n_tuple => k_is)
      (case n_isinstance => k_is)
      (case n_sorted => k_is)
      (case n_min => k_is)
      (case n_max => k_is)
      (case g_WIDEST => k_is)
      (case g_HIGHEST => k_is)
      (case g_TAB_STEP => k_is)
      (case g_ALL_MARKS => k_is)
      (case g_B => k_is)
      (case d_B => rfl)
      (case aC => k_is)
      (case pg => k_is)
      (case hd => k_is)
      (case po => k_is)
      (case sa => k_is)
      (case a_picture => k_is)
      (case a_wide => k_is)
      (case a_high => k_is)
      (case a_row => k_is)
      (case a_column => k_is)
      (case a_late => k_is)
      (case a_ink => k_is)
      (case a_wrap => k_is)
      (case a_putting => k_is)
      (case a_home => k_is)
      (case a_top => k_is)
      (case a_bottom => k_is)
      (case a_left => k_is)
      (case a_right => k_is)
      (case a_stops => k_is)
      (case a_kept => k_is)
      (case a_last => k_is)
    case e_State =>
      refine' K16.mk_State ?mk ?a1 ?i1 ?kc ?l ?c ?k
      (case mk => k_is); (case a1 => k_is); (case i1 => k_is); (case kc => k_is); (case l => k_is); (case c => k_is); (case k => k_is)
    case e_begin =>
      refine' K16.mt_begin ?a1 ?i1 ?l ?c ?k
      (case a1 => k_is); (case i1 => k_is); (case l => k_is); (case c => k_is); (case k => k_is)
    case zii => exact ⟨_, by (refine' K16.fkD KX G ?a ?l ?c ?k ?t ?e; (case a => k_is); (case l => k_is); (case c => k_is); (case k => k_is); (case t => k_is); (case e => rfl))⟩
    case zih => exact ⟨_, by (refine' K16.fkD KX G ?a ?l ?c ?k ?t ?e; (case a => k_is); (case l => k_is); (case c => k_is); (case k => k_is); (case t => k_is); (case e => rfl))⟩
    case zit => exact ⟨_, by (refine' K16.fkD KX G ?a ?l ?c ?k ?t ?e; (case a => k_is); (case l => k_is); (case c => k_is); (case k => k_is); (case t => k_is); (case e => rfl))⟩
    all_goals (refine' K16.fk KX G ?a ?l ?c ?k; (case a => k_is); (case l => k_is); (case c => k_is); (case k => k_is))
