import PyProof.Rows.All
import Wide.All
import OpenK.AllK
import Wide.FinOn
import Lean
import PyProof.EqAt
import PyProof.EqKinds
import PyProof.TupleCall
import KE.KTryMore
import KE.KDictOf
import PyProof.AttrMissHeap
import PyProof.Seq
import PyProof.Rows.Tup
import KE.KDictSum
import PyProof.Rows.SortWalk
import PyProof.EnumStmt
import PyProof.EnumMake
import PyProof.EnumFor
import PyProof.Rows.Range3
import PyProof.ReprRoads
import PyProof.Rows.MinMaxN
import KE.KMinBuiltin
import PyProof.Rows.CallKwBuiltin
import KE.KTabLook
import KE.LcSums
import KE.KIntText
import PyProof.Rows.StrIndexOr
import PyProof.FString5
import PyProof.StrBlockH
import PyProof.SliceStr2
import KE.KDictList
import PyProof.ListRange
import PyProof.StrLawsChain
import PyProof.StrLawsTight
import KE.IntTextLaws
import PyProof.Rows.StrSplitAre
import PyProof.Rows.ReprOcc
import PyProof.Rows.StrFin3
import PyProof.Draws
import PyProof.ZipIter
import PyProof.StrCalls
import PySem.Challenge.RW_signscreen_k06_signs_read
set_option compiler.extract_closed false
set_option Elab.async false
set_option linter.all false
set_option maxRecDepth 100000
set_option maxHeartbeats 4000000
namespace L2
open PySem PySem.Spec PyProof.Rows
noncomputable abbrev Key := Sum Int Str
noncomputable def Xp : Key → Value → Bool
  | .inl k, v => Value.isInt k v
  | .inr x, v => Value.isStrOf x v
noncomputable def Jr (w : World) : Key → Int
  | .inl k => hashInt k
  | .inr x => hashStr w x
theorem zK : ∀ {k : Key} {v : Value}, Xp k v = true → (∃ i t, k = Sum.inl i ∧ v = Value.int i t) ∨ (∃ x t, k = Sum.inr x ∧ v = Value.str x t)
  | .inl i, v, h => by
    obtain ⟨t, e⟩ := Value.isInt_shape (k := i) (v := v) h
    exact .inl ⟨i, t, rfl, e⟩
  | .inr x, v, h => by
    obtain ⟨t, e⟩ := Value.isStrOf_shape (x := x) (v := v) h
    exact .inr ⟨x, t, rfl, e⟩
theorem Um (a b : Int) : decide ((Sum.inl a : Key) = Sum.inl b) = (a == b) := by
  by_cases e : a = b
  · subst e; simp
  · have h : ¬ (Sum.inl a : Key) = Sum.inl b := fun q => e (Sum.inl.inj q)
    rw [decide_eq_false h]
    exact (beq_eq_false_iff_ne.mpr e).symm
theorem Uo (a b : Str) : decide ((Sum.inr a : Key) = Sum.inr b) = decide (a = b) := by
  by_cases e : a = b
  · subst e; simp
  · have h : ¬ (Sum.inr a : Key) = Sum.inr b := fun q => e (Sum.inr.inj q)
    rw [decide_eq_false h, decide_eq_false e]
theorem Uq (a : Int) (b : Str) : decide ((Sum.inl a : Key) = Sum.inr b) = false := decide_eq_false (fun q => nomatch q)
theorem Ur (a : Str) (b : Int) : decide ((Sum.inr a : Key) = Sum.inl b) = false := decide_eq_false (fun q => nomatch q)
noncomputable def uD (prog : Program) (w : World) : PySem.KeyKind prog w Key where
  is := Xp
  hash := Jr w
  inj := fun v a b ha hb => by
    rcases zK ha with ⟨i, t, rfl, rfl⟩ | ⟨x, t, rfl, rfl⟩
    · rcases zK hb with ⟨j, u, rfl, e⟩ | ⟨y, u, rfl, e⟩
      · injection e with e1 _; rw [e1]
      · exact nomatch e
    · rcases zK hb with ⟨j, u, rfl, e⟩ | ⟨y, u, rfl, e⟩
      · exact nomatch e
      · injection e with e1 _; rw [e1]
  byValue := fun k v h => by
    rcases zK h with ⟨i, t, rfl, rfl⟩ | ⟨x, t, rfl, rfl⟩ <;> rfl
  pyHash := fun hv h => by
    rcases zK hv with ⟨i, t, rfl, rfl⟩ | ⟨x, t, rfl, rfl⟩
    · exact wpAny_pyHash_int h
    · exact wpAny_pyHash_str h
  eqBool := fun hu hv h => by
    rcases zK hu with ⟨i, t, rfl, rfl⟩ | ⟨x, t, rfl, rfl⟩
    · rcases zK hv with ⟨j, u, rfl, rfl⟩ | ⟨y, u, rfl, rfl⟩
      · rw [Um] at h; exact wpAny_eqBool_int h
      · rw [Uq] at h; exact SeqAt.EqAt.int_str i t y u _ _ _ _ h
    · rcases zK hv with ⟨j, u, rfl, rfl⟩ | ⟨y, u, rfl, rfl⟩
      · rw [Ur] at h; exact SeqAt.EqAt.str_int x t j u _ _ _ _ h
      · rw [Uo] at h; exact wpAny_eqBool_str h
  «strs» := fun k x t v h => by
    rcases zK h with ⟨i, u, rfl, e⟩ | ⟨y, u, rfl, e⟩
    · exact nomatch e
    · injection e with e1 _
      subst e1
      cases v <;> rfl
end L2
namespace L2
open PySem PySem.Spec PyProof.Rows
inductive V where
  | non | bl (b : Bool) | int (i : Int) | str (x : Str) | byt (b : Array UInt8) | flt (b : UInt64) | ref (a : Addr) | ty (n : String)
  deriving DecidableEq
noncomputable def RelV : V → Value → Prop
  | .non, u => u = Value.none
  | .bl b, u => u = Value.bool b
  | .int i, u => ∃ t, u = Value.int i t
  | .str x, u => ∃ t, u = Value.str x t
  | .byt b, u => ∃ t, u = Value.bytes b t
  | .flt b, u => ∃ t, u = Value.float b t
  | .ref a, u => u = Value.ref a
  | .ty n, u => u = Value.type n
noncomputable abbrev Vals : List V → List Value → Prop := Paired RelV
theorem Vals.length {xs : List V} {us : List Value} (r : Vals xs us) : xs.length = us.length := Paired.length r
theorem Vals.get : ∀ {xs : List V} {us : List Value} {i : Nat} {x : V}, Vals xs us → xs[i]? = some x → ∃ u, us[i]? = some u ∧ RelV x u
  | _, _, _, _, .nil, e => by simp at e
  | _, _, 0, _, .cons r _, e => by simp at e; subst e; exact ⟨_, rfl, r⟩
  | _, _, i + 1, x, .cons _ t, e => by
    obtain ⟨u, h1, h2⟩ := Vals.get (i := i) (x := x) t (by simpa using e)
    exact ⟨u, by simpa using h1, h2⟩
theorem Vals.set {x : V} {u : Value} (r : RelV x u) : ∀ {xs : List V} {us : List Value} (i : Nat), Vals xs us → Vals (xs.set i x) (us.set i u)
  | _, _, _, .nil => .nil
  | _, _, 0, .cons _ t => .cons r t
  | _, _, i + 1, .cons q t => .cons q (Vals.set r i t)
theorem Vals.append : ∀ {xs ys : List V} {us ws : List Value}, Vals xs us → Vals ys ws → Vals (xs ++ ys) (us ++ ws)
  | _, _, _, _, .nil, s => s
  | _, _, _, _, .cons r t, s => .cons r (Vals.append t s)
theorem Vals.take : ∀ {xs : List V} {us : List Value} (n : Nat), Vals xs us → Vals (xs.take n) (us.take n)
  | _, _, 0, _ => .nil
  | _, _, _ + 1, .nil => .nil
  | _, _, n + 1, .cons r t => .cons r (Vals.take n t)
theorem Vals.drop : ∀ {xs : List V} {us : List Value} (n : Nat), Vals xs us → Vals (xs.drop n) (us.drop n)
  | _, _, 0, r => r
  | _, _, _ + 1, .nil => .nil
  | _, _, n + 1, .cons _ t => Vals.drop n t
theorem Vals.none_of : ∀ {xs : List V} {us : List Value} {i : Nat}, Vals xs us → xs[i]? = none → us[i]? = none := fun {xs us i} r e => by
  have h1 := r.length
  have h2 : xs.length ≤ i := List.getElem?_eq_none_iff.mp e
  exact List.getElem?_eq_none_iff.mpr (by omega)
noncomputable def yo : Option V → Option Value → Prop
  | some v, some u => RelV v u
  | none, none => True
  | _, _ => False
noncomputable def KV {κ : Type} : List (κ × V) → List (κ × Value) → Prop := Paired fun (p : κ × V) (q : κ × Value) => p.1 = q.1 ∧ RelV p.2 q.2
noncomputable def kV : Key → V
  | .inl i => .int i
  | .inr x => .str x
inductive HO where
  | lst (xs : List V)
  | tup (xs : List V)
  | dK (kvs : List (Key × V)) | dT (kvs : List (List Key × V))
  | set (S : Int → Bool) (n : Nat)
  | ins (C dx : Addr) (fs : List (Str × V))
  | own (x : Addr)
  | xd (fs : List (Str × V))
  | met (f x : Addr)
  | rng (lo hi : Int)
  | frz (o : Obj) (u : HO)
  | tbl (ps : Array Value)
  | ext (φ : Heap → Prop)
noncomputable abbrev Hp := Addr → Option HO
noncomputable def upd (H : Hp) (a : Addr) (o : HO) : Hp := fun b => if b = a then some o else H b
theorem zh {H : Hp} {a : Addr} {o : HO} : upd H a o a = some o := by unfold upd; rw [if_pos rfl]
theorem za {H : Hp} {a b : Addr} {o : HO} (h : b ≠ a) : upd H a o b = H b := by unfold upd; rw [if_neg h]
theorem jH {H : Hp} {a : Addr} {o u : HO} : upd (upd H a o) a u = upd H a u := by
  funext b; unfold upd; split <;> rfl
theorem zz {H : Hp} {a b : Addr} {o : HO} (h : H a = some o) (h' : H b = none) : a ≠ b := by
  intro e; subst e; rw [h] at h'; cases h'
section
variable (P : Program) (w : World)
noncomputable def zN (H : Hp) (h : Heap) (a : Addr) : HO → Prop
  | .lst xs => xs.length ≤ sizeLine ∧ ∃ (its : List Value) (n : Nat), Vals xs its ∧ h.get? a = some { cls := .type "list", data := .seq its.toArray n }
  | .tup xs => xs.length ≤ sizeLine ∧ ∃ its : List Value, Vals xs its ∧ IsTup h a its.toArray
  | .dK kvs => kvs.length ≤ sizeLine ∧ (a == sysModules) = false ∧ ∃ vs, KV kvs vs ∧ h.DictOf (uD P w) a vs
  | .dT kvs => kvs.length ≤ sizeLine ∧ (a == sysModules) = false ∧ ∃ xs : List (List Key × Addr × Value),
      Paired (fun (p : List Key × V) (q : List Key × Addr × Value) => p.1 = q.1 ∧ H q.2.1 = some (.tup (p.1.map kV)) ∧ RelV p.2 q.2.2) kvs xs ∧
      ∃ o es ep, h.get? a = some o ∧ o.ExactDict ∧ o.data = .dict es ep ∧ es.toList = xs.map (entryOfKey (tupleKind (uD P w))) ∧ (xs.map (·.1)).Nodup
  | .set S n => h.SetOf (intKind P w) a S n
  | .ins C dx fs => H dx = some (.own a) ∧ fs.length ≤ 1000 ∧ dx ≠ a ∧ h.get? a = some (PySem.W.instObj C dx) ∧
      ∃ mA, h.Ns1 dx mA ∧ (∀ f, yo (fs.lookup f) (mA f)) ∧ PySem.Within mA (fs.map (·.1))
  | .own _ => ∃ o, h.get? a = some o
  | .xd fs => ∃ mA, h.Ns1 a mA ∧ ∀ f, yo (fs.lookup f) (mA f)
  | .rng lo hi => ∃ t u v, h.get? a = some { cls := .type "range", data := .fields #[.int lo t, .int hi u, .int 1 v] }
  | .frz o u => h.get? a = some o ∧ zN H h a u
  | .tbl ps => h.get? a = some { cls := .none, data := .fields ps }
  | .met f x => h.get? a = some (PySem.W.methodObj (.ref f) (.ref x))
  | .ext φ => φ h ∧ (∃ o, h.get? a = some o) ∧ ∀ h1 h2 : Heap, φ h1 → (∀ o, h1.get? a = some o → h2.get? a = some o) → φ h2
noncomputable def HOk (H : Hp) (h : Heap) : Prop := ∀ a o, H a = some o → zN P w H h a o
end
section
variable {P : Program} {w : World} {H H' : Hp} {h h' : Heap} {a : Addr} {o : HO}
theorem zN.lt (x : zN P w H h a o) : a < h.objs.size := by
  cases o with
  | lst xs => obtain ⟨_, _, _, _, e⟩ := x; exact Heap.lt_size e
  | tup xs => obtain ⟨_, _, _, p⟩ := x; exact p.lt
  | dK kvs => obtain ⟨_, _, _, _, o, _, _, e, _⟩ := x; exact Heap.lt_size e
  | dT kvs => obtain ⟨_, _, _, _, o, _, _, e, _⟩ := x; exact Heap.lt_size e
  | set S n => obtain ⟨o, _, _, _, e, _⟩ := x; exact Heap.lt_size e
  | ins C dx fs => obtain ⟨_, _, _, e, _⟩ := x; exact Heap.lt_size e
  | own y => obtain ⟨_, e⟩ := x; exact Heap.lt_size e
  | xd fs => obtain ⟨_, ⟨_, _, _, e, _⟩, _⟩ := x; exact Heap.lt_size e
  | rng lo hi => obtain ⟨_, _, _, e⟩ := x; exact Heap.lt_size e
  | frz ob u => obtain ⟨e, _⟩ := x; exact Heap.lt_size e
  | tbl ps => exact Heap.lt_size (show h.get? a = some _ from x)
  | met f y => exact Heap.lt_size (show h.get? a = some _ from x)
  | ext φ => obtain ⟨_, ⟨_, e⟩, _⟩ := x; exact Heap.lt_size e
theorem Paired.mapP {α β : Type} {F G : α → β → Prop} : ∀ {l₁ : List α} {l₂ : List β}, Paired F l₁ l₂ → (∀ a b, F a b → G a b) → Paired G l₁ l₂
  | _, _, .nil, _ => .nil
  | _, _, .cons r t, f => .cons (f _ _ r) (Paired.mapP t f)
theorem Paired.imp' {α β : Type} {F G : α → β → Prop} (f : ∀ a b, F a b → G a b) {l₁ : List α} {l₂ : List β} (r : Paired F l₁ l₂) : Paired G l₁ l₂ := Paired.mapP r f
theorem zN.stay (x : zN P w H h a o) (k : ∀ b u, (b = a ∨ H b = some (.own a)) → h.get? b = some u → h'.get? b = some u)
    (ho : ∀ b, H b = some (.own a) → H' b = some (.own a)) (ht : ∀ b xs, H b = some (.tup xs) → H' b = some (.tup xs)) : zN P w H' h' a o := by
  induction o with
  | lst xs => obtain ⟨z, its, n, r, e⟩ := x; exact ⟨z, its, n, r, k _ _ (.inl rfl) e⟩
  | tup xs => obtain ⟨z, its, r, ob, e, c⟩ := x; exact ⟨z, its, r, ob, k _ _ (.inl rfl) e, c⟩
  | dK kvs => obtain ⟨z, y, vs, r, ob, es, ep, e, c⟩ := x; exact ⟨z, y, vs, r, ob, es, ep, k _ _ (.inl rfl) e, c⟩
  | dT kvs =>
    obtain ⟨z, y, xs, r, ob, es, ep, e, c⟩ := x
    exact ⟨z, y, xs, Paired.mapP r fun p q z => ⟨z.1, ht _ _ z.2.1, z.2.2⟩, ob, es, ep, k _ _ (.inl rfl) e, c⟩
  | set S n => obtain ⟨ob, es, ep, t, e, c⟩ := x; exact ⟨ob, es, ep, t, k _ _ (.inl rfl) e, c⟩
  | ins C dx fs =>
    obtain ⟨d, z, ne, e, mA, ⟨od, es, ep, e2, c⟩, r⟩ := x
    exact ⟨ho _ d, z, ne, k _ _ (.inl rfl) e, mA, ⟨od, es, ep, k _ _ (.inr d) e2, c⟩, r⟩
  | own y => obtain ⟨ob, e⟩ := x; exact ⟨ob, k _ _ (.inl rfl) e⟩
  | xd fs => obtain ⟨mA, ⟨od, es, ep, e, c⟩, r⟩ := x; exact ⟨mA, ⟨od, es, ep, k _ _ (.inl rfl) e, c⟩, r⟩
  | rng lo hi => obtain ⟨t, u, v, e⟩ := x; exact ⟨t, u, v, k _ _ (.inl rfl) e⟩
  | frz ob u ih => obtain ⟨e, q⟩ := x; exact ⟨k _ _ (.inl rfl) e, ih q⟩
  | tbl ps =>
    have e : h.get? a = some { cls := .none, data := .fields ps } := x
    show h'.get? a = some { cls := .none, data := .fields ps }
    exact k a _ (.inl rfl) e
  | met f y =>
    have e : h.get? a = some (PySem.W.methodObj (.ref f) (.ref y)) := x
    show h'.get? a = some (PySem.W.methodObj (.ref f) (.ref y))
    exact k a _ (.inl rfl) e
  | ext φ => obtain ⟨p, ⟨o, e⟩, st⟩ := x; exact ⟨st _ _ p fun o q => k _ _ (.inl rfl) q, ⟨o, k _ _ (.inl rfl) e⟩, st⟩
theorem HOk.lt (x : HOk P w H h) (e : H a = some o) : a < h.objs.size := (x a o e).lt
theorem HOk.fresh (x : HOk P w H h) (e : h.objs.size ≤ a) : H a = none := by
  cases q : H a with
  | none => rfl
  | some u => exact absurd (Nat.lt_of_lt_of_le (x.lt q) e) (Nat.lt_irrefl _)
theorem HOk.kept (x : HOk P w H h) (k : ∀ b u, h.get? b = some u → h'.get? b = some u) : HOk P w H h' := fun a o e =>
  (x a o e).stay (fun b u _ q => k b u q) (fun _ q => q) fun _ _ q => q
theorem HOk.laid (x : HOk P w H h) (k : ∀ b u, h.get? b = some u → h'.get? b = some u) (hp : h.objs.size ≤ a) (new : zN P w (upd H a o) h' a o) : HOk P w (upd H a o) h' := fun b u e => by
  have hn := x.fresh hp
  by_cases hb : b = a
  · subst hb; rw [zh] at e; cases e; exact new
  · rw [za hb] at e
    exact (x b u e).stay (fun c v _ q => k c v q) (fun c q => by rw [za (zz q hn)]; exact q) fun c xs q => by rw [za (zz q hn)]; exact q
end
noncomputable def Rd (H : Hp) (a : Addr) (u : HO) : Prop := H a = some u ∨ ∃ o, H a = some (.frz o u)
theorem Rd.of {H : Hp} {a : Addr} {u : HO} (h : H a = some u) : Rd H a u := .inl h
theorem Rd.ok {P : Program} {w : World} {H : Hp} {h : Heap} {a : Addr} {u : HO} (r : Rd H a u) (x : HOk P w H h) : zN P w H h a u := by
  rcases r with r | ⟨o, r⟩
  · exact x a u r
  · obtain ⟨_, q⟩ := x a _ r
    exact q
noncomputable def Mut : Option HO → Prop
  | some (.lst _) => True
  | some (.dK _) => True
  | some (.dT _) => True
  | some (.set _ _) => True
  | some (.ins _ _ _) => True
  | some (.ext _) => True
  | _ => False
section
variable {P : Program} {w : World} {H : Hp} {h h' : Heap} {x e : Addr} {o' : HO}
theorem HOk.write (ok : HOk P w H h) (mu : Mut (H x)) (he : e = x ∨ H e = some (.own x)) (k : ∀ b u, b ≠ e → h.get? b = some u → h'.get? b = some u) (heo : ∃ u, h'.get? e = some u)
    (new : zN P w (upd H x o') h' x o') : HOk P w (upd H x o') h' := fun b u q => by
  have nown : ∀ c y, H c = some (.own y) → c ≠ x := fun c y r z => by subst z; rw [r] at mu; exact mu
  have ntup : ∀ c xs, H c = some (.tup xs) → c ≠ x := fun c xs r z => by subst z; rw [r] at mu; exact mu
  by_cases hb : b = x
  · subst hb; rw [zh] at q; cases q; exact new
  · rw [za hb] at q
    by_cases hbe : b = e
    · have q' : H b = some (.own x) := by
        rcases he with z | z
        · exact absurd (hbe.trans z) hb
        · rw [hbe]; exact z
      rw [q] at q'; cases q'
      obtain ⟨v, hv⟩ := heo
      exact ⟨v, by rw [hbe]; exact hv⟩
    · refine (ok b u q).stay (fun c v hc r => k c v ?_ r) (fun c r => by rw [za (nown c b r)]; exact r) fun c xs r => by rw [za (ntup c xs r)]; exact r
      rcases hc with rfl | hc
      · exact hbe
      · rintro rfl
        rcases he with z | z
        · exact nown c b hc z
        · rw [hc] at z; cases z; exact hb rfl
end
structure Un (fs ex : List Addr) (H H' : Hp) (h h' : Heap) : Prop where
  keep : ∀ b o, h.get? b = some o → H b = none → b ∉ fs → b ∉ ex → h'.get? b = some o
  slot : ∀ b o, h.get? b = some o → H b = none → b ∈ fs → b ∉ ex → ∃ sl, h'.get? b = some { o with slots := sl }
  free : ∀ b o, h.get? b = some o → H b = none → b ∉ ex → H' b = none
  there : ∀ b o, h.get? b = some o → b ∉ ex → ∃ o', h'.get? b = some o'
  tups : ∀ b xs, H b = some (.tup xs) → H' b = some (.tup xs)
  frzs : ∀ b o u, H b = some (.frz o u) → H' b = some (.frz o u)
  tbls : ∀ b ps, H b = some (.tbl ps) → ∃ more, H' b = some (.tbl (ps ++ more))
section
variable {fs fs' ex ex' : List Addr} {H H1 H2 : Hp} {h h1 h2 h' : Heap} {a x e : Addr} {o : HO}
theorem Un.any (u : Un fs ex H H1 h h1) {b : Addr} {ob : Obj} (q : h.get? b = some ob) (n : H b = none) (hx : b ∉ ex) : ∃ sl, h1.get? b = some { ob with slots := sl } := by
  by_cases hb : b ∈ fs
  · exact u.slot b ob q n hb hx
  · exact ⟨ob.slots, u.keep b ob q n hb hx⟩
theorem Un.trans (a : Un fs ex H H1 h h1) (b : Un fs ex H1 H2 h1 h2) : Un fs ex H H2 h h2 where
  keep := fun c ob q n hc hx => b.keep c ob (a.keep c ob q n hc hx) (a.free c ob q n hx) hc hx
  slot := fun c ob q n hc hx => by
    obtain ⟨sl, e1⟩ := a.slot c ob q n hc hx
    obtain ⟨sl', e2⟩ := b.slot c _ e1 (a.free c ob q n hx) hc hx
    exact ⟨sl', e2⟩
  free := fun c ob q n hx => by
    obtain ⟨o', e1⟩ := a.there c ob q hx
    exact b.free c o' e1 (a.free c ob q n hx) hx
  there := fun c ob q hx => by
    obtain ⟨o', e1⟩ := a.there c ob q hx
    exact b.there c o' e1 hx
  tups := fun c xs q => b.tups c xs (a.tups c xs q)
  frzs := fun c ob xs q => b.frzs c ob xs (a.frzs c ob xs q)
  tbls := fun c ps q => by
    obtain ⟨m1, e1⟩ := a.tbls c ps q
    obtain ⟨m2, e2⟩ := b.tbls c _ e1
    exact ⟨m1 ++ m2, by rw [e2, Array.append_assoc]⟩
theorem Un.kept (k : ∀ b u, h.get? b = some u → h'.get? b = some u) : Un fs ex H H h h' :=
  ⟨fun b ob q _ _ _ => k b ob q, fun b ob q _ _ _ => ⟨ob.slots, k b ob q⟩, fun _ _ _ n _ => n, fun b ob q _ => ⟨ob, k b ob q⟩, fun _ _ q => q, fun _ _ _ q => q, fun _ ps q => ⟨#[], by rw [q]; simp⟩⟩
theorem Un.refl : Un fs ex H H h h := Un.kept fun _ _ q => q
theorem Un.laid (k : ∀ b u, h.get? b = some u → h'.get? b = some u) (hp : h.objs.size ≤ a) (hn : H a = none) : Un fs ex H (upd H a o) h h' where
  keep := fun b u q _ _ _ => k b u q
  slot := fun b u q _ _ _ => ⟨u.slots, k b u q⟩
  free := fun b u q n _ => by rw [za (Nat.ne_of_lt (Nat.lt_of_lt_of_le (Heap.lt_size q) hp))]; exact n
  there := fun b u q _ => ⟨u, k b u q⟩
  tups := fun b xs q => by rw [za (zz q hn)]; exact q
  frzs := fun b u xs q => by rw [za (zz q hn)]; exact q
  tbls := fun b ps q => ⟨#[], by rw [za (zz q hn), q]; simp⟩
theorem Un.write (mu : Mut (H x)) (he : e = x ∨ H e = some (.own x)) (k : ∀ b u, b ≠ e → h.get? b = some u → h'.get? b = some u) (heo : ∃ u, h'.get? e = some u) : Un fs ex H (upd H x o) h h' := by
  have hx : ∀ b, H b = none → b ≠ x := fun b n z => by subst z; rw [n] at mu; exact mu
  have hb : ∀ b, H b = none → b ≠ e := fun b n z => by
    subst z
    rcases he with r | r
    · exact hx b n r
    · rw [n] at r; cases r
  have hm : ∀ b u, H b = some u → ¬ Mut (some u) → b ≠ x := fun b u q nm z => by subst z; rw [q] at mu; exact nm mu
  refine ⟨fun b u q n _ _ => k b u (hb b n) q, fun b u q n _ _ => ⟨u.slots, k b u (hb b n) q⟩, fun b u q n _ => by rw [za (hx b n)]; exact n, fun b u q _ => ?_,
    fun b xs q => by rw [za (hm b _ q fun z => z)]; exact q, fun b u xs q => by rw [za (hm b _ q fun z => z)]; exact q, fun b ps q => ⟨#[], by rw [za (hm b _ q fun z => z), q]; simp⟩⟩
  by_cases hbe : b = e
  · subst hbe; exact heo
  · exact ⟨u, k b u hbe q⟩
theorem Un.mono (u : Un fs ex H H1 h h1) (hs : ∀ b ∈ fs, b ∈ fs') (hx : ∀ b ∈ ex, b ∈ ex') : Un fs' ex' H H1 h h1 :=
  ⟨fun b ob q n hb he => u.keep b ob q n (fun z => hb (hs b z)) fun z => he (hx b z), fun _ _ q n _ he => u.any q n fun z => he (hx _ z), fun b ob q n he => u.free b ob q n fun z => he (hx b z), fun b ob q he => u.there b ob q fun z => he (hx b z), u.tups, u.frzs, u.tbls⟩
end
noncomputable def trk (h : Heap) (H : Hp) : List Addr := (List.range h.objs.size).filter fun a => (H a).isSome
noncomputable def xS (h : Heap) (H : Hp) : Heap := PySem.W.hideAll h (trk h H)
theorem Za (h : Heap) (H : Hp) : (xS h H).objs.size = h.objs.size := PySem.W.hideAll_size _ _
theorem Z7 {h : Heap} {H : Hp} {b : Addr} {o : Obj} (e : h.get? b = some o) (n : H b = none) : (xS h H).get? b = some o :=
  PySem.W.hideAll_get _ e fun hm => by
    have q : (H b).isSome = true := (List.mem_filter.mp hm).2
    rw [n] at q; simp at q
theorem Vc {h : Heap} {H : Hp} {b : Addr} {o : Obj} (e : (xS h H).get? b = some o) : h.get? b = some o ∧ H b = none := by
  have e' : h.get? b = some o := PySem.W.of_hideAll (trk h H) e
  refine ⟨e', ?_⟩
  cases q : H b with
  | none => rfl
  | some x =>
    have hm : b ∈ trk h H := List.mem_filter.mpr ⟨List.mem_range.mpr (Heap.lt_size e'), by simp [q]⟩
    have z : (xS h H).get? b = none := PySem.W.hideAll_none (trk h H) hm
    rw [z] at e; cases e
noncomputable def Vd (g h : Heap) (L : Addr) : List (Addr × Obj) := (List.range h.objs.size).filterMap fun a => if a = L ∨ (g.get? a).isSome = true then none else (h.get? a).map fun o => (a, o)
noncomputable def zO (g h : Heap) (L d : Addr) : List (Addr × Obj) := (Vd g h L).filter fun p => decide (p.1 ≠ d)
end L2
namespace L2
open PySem PySem.Spec PyProof.Rows
structure Mod (K : PySem.W.Frag) (mg : Str → Option Value) (base : Heap) : Prop where
  kin : K.In base
  glob : base.Ns mainGlobals mg
  blt : ∃ mb, base.Ns builtinsNs mb ∧ ∀ x : Str, x ≠ "__name__" → mb x = bootBuiltins x
  nolimit : base.NoLimit
structure Cx where
  prog : Program
  w : World
  K : PySem.W.Frag
  mg : Str → Option Value
  base : Heap
  A : Around
  N : List Str
  s₀ : Shared
  H₀ : Hp
  env : Env
  outer : List Env
  stack : List Env
  ex : List Addr
  fn : Str → Bool
  calm : Bool
  pn : List (Addr × Obj)
  xe : Value → Shared → Prop
noncomputable def frs (l : List Env) : List Addr := l.filterMap (·.frame)
noncomputable abbrev Cx.fs (X : Cx) : List Addr := frs X.outer
noncomputable def Vis (sc : Scope) (x : Str) : Prop := sc.names.lookup x = some .local ∨ sc.names.lookup x = some .cell ∨ sc.names.lookup x = some .free
noncomputable def Loc (sc : Scope) (x : Str) : Prop := sc.names.lookup x = some .local ∨ sc.names.lookup x = some .cell
noncomputable def Look (env : Env) (h : Heap) (m : Str → Option Value) (x : Str) (u : Value) : Prop :=
  (env.kindOf x = some .local ∧ m x = some u) ∨ ((env.kindOf x = some .cell ∨ env.kindOf x = some .free) ∧ ∃ c, env.cells.lookup x = some c ∧ h.IsCell c (some u))
structure Cx.Ok (X : Cx) : Prop where
  mod : Mod X.K X.mg X.base
  kind : X.env.scope.kind = .function
  glob : X.env.globals = mainGlobals
  blt : X.env.builtins = builtinsNs
  above : X.s₀.heap.objs.size ≤ X.env.locals
  inj : ∀ x y c, X.env.cells.lookup x = some c → X.env.cells.lookup y = some c → x = y
  has : ∀ x, (X.env.kindOf x = some .cell ∨ X.env.kindOf x = some .free) → ∃ c, X.env.cells.lookup x = some c
  cab : ∀ x c, X.fn x = true → X.env.cells.lookup x = some c → X.s₀.heap.objs.size ≤ c
  hd : X.calm = true → X.A.handled = none
  frames : X.A.frames = some X.stack
  stk : X.stack = X.outer ∨ (X.stack = X.env :: X.outer ∧ X.env.frame = some X.env.locals)
  exf : ∀ b ∈ X.ex, b ≠ X.env.locals ∧ ∀ x c, X.env.cells.lookup x = some c → c ≠ b
  bs : ∀ b o, X.base.get? b = some o → X.s₀.heap.get? b = some o ∧ X.H₀ b = none
  bsz : X.base.objs.size ≤ X.s₀.heap.objs.size
  noex : ∀ b o, X.base.get? b = some o → b ∉ X.ex
  exfs : ∀ b ∈ X.ex, b ∉ X.fs
  funs : X.s₀.heap.FunFrames X.base X.outer
  frf : ∀ b ∈ X.fs, X.H₀ b = none
structure Inv (X : Cx) (pins : List (Addr × Obj)) (σ : List (Option V)) (H : Hp) (s : Shared) : Prop where
  ok : X.Ok
  os : s.os = X.s₀.os
  bare : AllBare s.gens
  base : Un X.fs X.ex X.H₀ H X.s₀.heap s.heap
  loc : ∃ m, s.heap.Ns X.env.locals m ∧ ∀ (i : Nat) (x : Str) (v : V), X.N[i]? = some x → σ[i]? = some (some v) → Vis X.env.scope x → ∃ u, RelV v u ∧ Look X.env s.heap m x u
  cell : ∀ x c, X.env.cells.lookup x = some c → ∃ v, s.heap.IsCell c v
  free : H X.env.locals = none
  freeC : ∀ x c, X.env.cells.lookup x = some c → H c = none
  pin : ∀ p ∈ X.pn ++ pins, s.heap.get? p.1 = some p.2 ∧ H p.1 = none ∧ p.1 ≠ X.env.locals ∧ p.1 ∉ X.fs ∧ ∀ v, p.2.data ≠ .cell v
  hok : HOk X.prog X.w H s.heap
  len : σ.length = X.N.length
section
variable {X : Cx} {pins : List (Addr × Obj)} {σ : List (Option V)} {H H' : Hp} {s : Shared} {h' : Heap}
theorem Cx.Ok.nofr (ok : X.Ok) {b : Addr} {o : Obj} (e : X.base.get? b = some o) : b ∉ X.fs := fun hb => by
  have := (ok.funs.mem hb).1
  rw [e] at this; cases this
theorem Inv.bs (I : Inv X pins σ H s) : ∀ b o, X.base.get? b = some o → s.heap.get? b = some o ∧ H b = none := fun b o e =>
  ⟨I.base.keep b o (I.ok.bs b o e).1 (I.ok.bs b o e).2 (I.ok.nofr e) (I.ok.noex b o e), I.base.free b o (I.ok.bs b o e).1 (I.ok.bs b o e).2 (I.ok.noex b o e)⟩
theorem Inv.bk (I : Inv X pins σ H s) : ∀ b o, X.base.get? b = some o → s.heap.get? b = some o := fun b o e => (I.bs b o e).1
theorem Inv.mod (I : Inv X pins σ H s) : Mod X.K X.mg X.base := I.ok.mod
theorem Inv.kIn (I : Inv X pins σ H s) : X.K.In s.heap := I.ok.mod.kin.keeps I.bk
theorem Inv.nolimit (I : Inv X pins σ H s) : s.heap.NoLimit := I.ok.mod.nolimit.keeps I.bk
theorem Inv.lt (I : Inv X pins σ H s) : X.env.locals < s.heap.objs.size := let ⟨_, hn, _⟩ := I.loc; hn.lt
theorem Inv.sz (I : Inv X pins σ H s) : X.s₀.heap.objs.size ≤ s.heap.objs.size := Nat.le_trans I.ok.above (Nat.le_of_lt I.lt)
theorem Inv.nofs (I : Inv X pins σ H s) {a : Addr} (h : s.heap.objs.size ≤ a) : a ∉ X.fs := fun hb => by
  obtain ⟨_, o, ho, _⟩ := I.ok.funs.mem hb
  exact absurd (Nat.lt_of_lt_of_le (Heap.lt_size ho) (Nat.le_trans I.sz h)) (Nat.lt_irrefl _)
theorem Inv.cne (I : Inv X pins σ H s) : ∀ x c, X.env.cells.lookup x = some c → c ≠ X.env.locals := fun x c e z => by
  obtain ⟨v, o, ho, hd⟩ := I.cell x c e
  obtain ⟨m, ⟨o', es, ep, ho', hd', _⟩, _⟩ := I.loc
  rw [z, ho'] at ho; cases ho; rw [hd'] at hd; cases hd
theorem Inv.funs (I : Inv X pins σ H s) : s.heap.FunFrames X.base X.outer := by
  have all : ∀ (l : List Env), (∀ b ∈ frs l, b ∈ X.fs) → X.s₀.heap.FunFrames X.base l → s.heap.FunFrames X.base l := by
    intro l
    induction l with
    | nil => intro _ _; trivial
    | cons env r ih =>
      intro hs hl
      obtain ⟨hk, ⟨L, o, hf, hn, ho, hd⟩, hr⟩ := hl
      have hL : L ∈ X.fs := hs L (by unfold frs; rw [List.filterMap_cons, hf]; exact List.mem_cons_self)
      obtain ⟨sl, e⟩ := I.base.slot L o ho (I.ok.frf L hL) hL fun z => I.ok.exfs L z hL
      exact ⟨hk, ⟨L, _, hf, hn, e, hd⟩, ih (fun b hb => hs b (by unfold frs; rw [List.filterMap_cons, hf]; exact List.mem_cons_of_mem _ hb)) hr⟩
  exact all X.outer (fun _ hb => hb) I.ok.funs
theorem Inv.stack (I : Inv X pins σ H s) : s.heap.FunFrames X.base X.stack := by
  rcases I.ok.stk with e | ⟨e, hf⟩
  · rw [e]; exact I.funs
  · rw [e]
    obtain ⟨m, hn, _⟩ := I.loc
    refine .cons (by rw [I.ok.kind]; decide) hf hn ?_ I.funs
    exact Heap.get?_none_of_le (Nat.le_trans I.ok.bsz I.ok.above)
theorem Inv.stkSub (I : Inv X pins σ H s) : ∀ b ∈ frs X.stack, b ∈ X.env.locals :: X.fs := fun b hb => by
  rcases I.ok.stk with e | ⟨e, hf⟩
  · rw [e] at hb; exact List.mem_cons_of_mem _ hb
  · rw [e] at hb
    unfold frs at hb
    rw [List.filterMap_cons, hf] at hb
    exact hb
theorem Inv.stkFree (I : Inv X pins σ H s) : ∀ b ∈ frs X.stack, H b = none := fun b hb => by
  rcases List.mem_cons.mp (I.stkSub b hb) with e | hb
  · rw [e]; exact I.free
  · obtain ⟨_, o, ho, _⟩ := I.ok.funs.mem hb
    exact I.base.free b o ho (I.ok.frf b hb) fun z => I.ok.exfs b z hb
theorem Inv.step {g' : Array GenState} {t' : Nat} {d' : Drawn} {ch : List Addr} (I : Inv X pins σ H s)
    (hch : ∀ b ∈ ch, (b ∈ X.ex ∨ X.s₀.heap.objs.size ≤ b) ∧ b ≠ X.env.locals ∧ (∀ x c, X.env.cells.lookup x = some c → c ≠ b) ∧ ∀ p ∈ X.pn ++ pins, p.1 ≠ b)
    (keep : ∀ b o, b ≠ X.env.locals → b ∉ X.fs → b ∉ ch → s.heap.get? b = some o → H b = none → h'.get? b = some o)
    (slot : ∀ b o, b ≠ X.env.locals → b ∈ X.fs → b ∉ ch → s.heap.get? b = some o → H b = none → ∃ sl, h'.get? b = some { o with slots := sl }) (free : ∀ b o, b ∉ ch → s.heap.get? b = some o → H b = none → H' b = none)
    (there : ∀ b o, b ∉ ch → s.heap.get? b = some o → ∃ o', h'.get? b = some o')
    (tups : ∀ b xs, H b = some (.tup xs) → H' b = some (.tup xs)) (frzs : ∀ b o u, H b = some (.frz o u) → H' b = some (.frz o u)) (tbls : ∀ b ps, H b = some (.tbl ps) → ∃ more, H' b = some (.tbl (ps ++ more)))
    (ns : ∀ m, s.heap.Ns X.env.locals m → h'.Ns X.env.locals m) (hok : HOk X.prog X.w H' h') (hg : AllBare g') :
    Inv X pins σ H' { s with heap := h', gens := g', drawn := d', toks := t' } := by
  have neL : ∀ b o, X.s₀.heap.get? b = some o → b ≠ X.env.locals := fun b o e => Nat.ne_of_lt (Nat.lt_of_lt_of_le (Heap.lt_size e) I.ok.above)
  have neC : ∀ b o, X.s₀.heap.get? b = some o → b ∉ X.ex → b ∉ ch := fun b o e hx hb => by
    rcases (hch b hb).1 with z | z
    · exact hx z
    · exact absurd (Nat.lt_of_lt_of_le (Heap.lt_size e) z) (Nat.lt_irrefl _)
  have cellK : ∀ x c, X.env.cells.lookup x = some c → ∀ v, s.heap.IsCell c v → h'.IsCell c v := fun x c e v ⟨o, ho, hd⟩ => by
    have nch : c ∉ ch := fun z => (hch c z).2.2.1 x c e rfl
    by_cases hc : c ∈ X.fs
    · obtain ⟨sl, q⟩ := slot c o (I.cne x c e) hc nch ho (I.freeC x c e)
      exact ⟨_, q, hd⟩
    · exact ⟨o, keep c o (I.cne x c e) hc nch ho (I.freeC x c e), hd⟩
  refine ⟨I.ok, I.os, hg, ⟨fun b o e n hb hx => ?_, fun b o e n hb hx => ?_, fun b o e n hx => ?_, fun b o e hx => ?_, fun b xs e => tups b xs (I.base.tups b xs e), fun b o xs e => frzs b o xs (I.base.frzs b o xs e), fun b ps e => ?_⟩, ?_, fun x c e => ?_, ?_, fun x c e => ?_, fun p hp => ?_, hok, I.len⟩
  · exact keep b o (neL b o e) hb (neC b o e hx) (I.base.keep b o e n hb hx) (I.base.free b o e n hx)
  · obtain ⟨sl, e1⟩ := I.base.slot b o e n hb hx
    obtain ⟨sl', e2⟩ := slot b _ (neL b o e) hb (neC b o e hx) e1 (I.base.free b o e n hx)
    exact ⟨sl', e2⟩
  · obtain ⟨o', e1⟩ := I.base.there b o e hx
    exact free b o' (neC b o e hx) e1 (I.base.free b o e n hx)
  · obtain ⟨o', e1⟩ := I.base.there b o e hx
    exact there b o' (neC b o e hx) e1
  · obtain ⟨m1, e1⟩ := I.base.tbls b ps e
    obtain ⟨m2, e2⟩ := tbls b _ e1
    exact ⟨m1 ++ m2, by rw [e2, Array.append_assoc]⟩
  · obtain ⟨m, hn, hl⟩ := I.loc
    refine ⟨m, ns m hn, fun i x v e1 e2 e3 => ?_⟩
    obtain ⟨u, r, l⟩ := hl i x v e1 e2 e3
    refine ⟨u, r, ?_⟩
    rcases l with l | ⟨k, c, e, z⟩
    · exact .inl l
    · exact .inr ⟨k, c, e, cellK x c e _ z⟩
  · obtain ⟨v, z⟩ := I.cell x c e
    exact ⟨v, cellK x c e v z⟩
  · obtain ⟨m, ⟨o, _, _, ho, _⟩, _⟩ := I.loc
    exact free _ o (fun z => (hch _ z).2.1 rfl) ho I.free
  · obtain ⟨v, o, ho, hd⟩ := I.cell x c e
    exact free c o (fun z => (hch c z).2.2.1 x c e rfl) ho (I.freeC x c e)
  · obtain ⟨e, n, ne, nf, d⟩ := I.pin p hp
    have nch : p.1 ∉ ch := fun z => (hch p.1 z).2.2.2 p hp rfl
    exact ⟨keep p.1 p.2 ne nf nch e n, free p.1 p.2 nch e n, ne, nf, d⟩
theorem Inv.un {t' : Nat} (I : Inv X pins σ H s) (u : Un X.fs [] H H' s.heap h') (hok : HOk X.prog X.w H' h') : Inv X pins σ H' { s with heap := h', toks := t' } := by
  obtain ⟨m, ⟨o, es, ep, ho, r⟩, _⟩ := id I.loc
  obtain ⟨sl, hL⟩ := u.any ho I.free (by simp)
  exact I.step (g' := s.gens) (d' := s.drawn) (ch := []) (fun _ z => nomatch z) (fun b o _ hb _ e n => u.keep b o e n hb (by simp)) (fun b o _ hb _ e n => u.slot b o e n hb (by simp)) (fun b o _ e n => u.free b o e n (by simp)) (fun b o _ e => u.there b o e (by simp)) u.tups u.frzs u.tbls (fun m' hm => by
    obtain ⟨o', es', ep', ho', r'⟩ := hm
    rw [ho] at ho'; cases ho'
    exact ⟨_, es', ep', hL, r'⟩) hok I.bare
theorem Inv.call {g' : Array GenState} {t' : Nat} {d' : Drawn} {ch : List Addr} (I : Inv X pins σ H s) (u : Un (frs X.stack) ch H H' s.heap h') (hok : HOk X.prog X.w H' h') (hg : AllBare g')
    (hch : ∀ b ∈ ch, (b ∈ X.ex ∨ X.s₀.heap.objs.size ≤ b) ∧ b ≠ X.env.locals ∧ (∀ x c, X.env.cells.lookup x = some c → c ≠ b) ∧ ∀ p ∈ X.pn ++ pins, p.1 ≠ b) :
    Inv X pins σ H' { s with heap := h', gens := g', drawn := d', toks := t' } := by
  obtain ⟨m, ⟨o, es, ep, ho, r⟩, _⟩ := id I.loc
  obtain ⟨sl, hL⟩ := u.any ho I.free fun z => (hch _ z).2.1 rfl
  exact I.step (ch := ch) hch (fun b o hL hb hc e n => u.keep b o e n (fun z => (List.mem_cons.mp (I.stkSub b z)).elim hL hb) hc) (fun b o _ _ hc e n => u.any e n hc) (fun b o hc e n => u.free b o e n hc) (fun b o hc e => u.there b o e hc) u.tups u.frzs u.tbls (fun m' hm => by
    obtain ⟨o', es', ep', ho', r'⟩ := hm
    rw [ho] at ho'; cases ho'
    exact ⟨_, es', ep', hL, r'⟩) hok hg
theorem Inv.turned {t' : Nat} {it : Addr} (I : Inv X pins σ H s) (k : ∀ b o, b ≠ it → s.heap.get? b = some o → h'.get? b = some o) (hn : H it = none) (hL : it ≠ X.env.locals)
    (h1 : it ∈ X.ex ∨ X.s₀.heap.objs.size ≤ it) (h2 : ∀ x c, X.env.cells.lookup x = some c → c ≠ it) (h3 : ∀ p ∈ X.pn ++ pins, p.1 ≠ it) : Inv X pins σ H { s with heap := h', toks := t' } := by
  have nit : ∀ b u, H b = some u → b ≠ it := fun b u e z => by rw [z, hn] at e; cases e
  refine I.step (g' := s.gens) (d' := s.drawn) (ch := [it]) (fun b hb => ?_) (fun b o _ _ hc e _ => k b o (fun z => hc (by simp [z])) e) (fun b o _ _ hc e _ => ⟨o.slots, k b o (fun z => hc (by simp [z])) e⟩) (fun _ _ _ _ n => n)
    (fun b o hc e => ⟨o, k b o (fun z => hc (by simp [z])) e⟩) (fun _ _ e => e) (fun _ _ _ e => e) (fun b ps e => ⟨#[], by rw [e]; simp⟩) (fun m hm => ?_) (fun b u e => ?_) I.bare
  · have e : b = it := by simpa using hb
    subst e
    exact ⟨h1, hL, h2, h3⟩
  · obtain ⟨o, es, ep, ho, r⟩ := hm
    exact ⟨o, es, ep, k _ o (Ne.symm hL) ho, r⟩
  · refine (I.hok b u e).stay (fun c v hc q => k c v ?_ q) (fun _ q => q) fun _ _ q => q
    rcases hc with z | z
    · rw [z]; exact nit b u e
    · exact nit c _ z
theorem Inv.tok (I : Inv X pins σ H s) (t : Nat) : Inv X pins σ H { s with toks := t } := I.un (h' := s.heap) (t' := t) Un.refl I.hok
theorem Inv.kept {t' : Nat} (I : Inv X pins σ H s) (k : ∀ b u, s.heap.get? b = some u → h'.get? b = some u) : Inv X pins σ H { s with heap := h', toks := t' } := I.un (Un.kept k) (I.hok.kept k)
theorem Inv.laid {a : Addr} {o : HO} {t' : Nat} (I : Inv X pins σ H s) (k : ∀ b u, s.heap.get? b = some u → h'.get? b = some u) (hp : s.heap.objs.size ≤ a) (new : zN X.prog X.w (upd H a o) h' a o) :
    Inv X pins σ (upd H a o) { s with heap := h', toks := t' } := I.un (Un.laid k hp (I.hok.fresh hp)) (I.hok.laid k hp new)
theorem Inv.write {x e : Addr} {o : HO} {t' : Nat} (I : Inv X pins σ H s) (mu : Mut (H x)) (he : e = x ∨ H e = some (.own x)) (k : ∀ b u, b ≠ e → s.heap.get? b = some u → h'.get? b = some u) (heo : ∃ u, h'.get? e = some u)
    (new : zN X.prog X.w (upd H x o) h' x o) : Inv X pins σ (upd H x o) { s with heap := h', toks := t' } := I.un (Un.write mu he k heo) (I.hok.write mu he k heo new)
theorem Inv.weak {σ' : List (Option V)} (I : Inv X pins σ H s) (hl : σ'.length = σ.length) (w : ∀ (i : Nat) v, σ'[i]? = some (some v) → σ[i]? = some (some v)) : Inv X pins σ' H s :=
  ⟨I.ok, I.os, I.bare, I.base, let ⟨m, hn, hl'⟩ := I.loc; ⟨m, hn, fun i x v e1 e2 e3 => hl' i x v e1 (w i v e2) e3⟩, I.cell, I.free, I.freeC, I.pin, I.hok, hl.trans I.len⟩
theorem Inv.pins_of {pins' : List (Addr × Obj)} (I : Inv X pins σ H s) (h : ∀ p ∈ pins', s.heap.get? p.1 = some p.2 ∧ H p.1 = none ∧ p.1 ≠ X.env.locals ∧ p.1 ∉ X.fs ∧ ∀ v, p.2.data ≠ .cell v) : Inv X pins' σ H s :=
  ⟨I.ok, I.os, I.bare, I.base, I.loc, I.cell, I.free, I.freeC, fun p hp => (List.mem_append.mp hp).elim (fun z => I.pin p (List.mem_append_left _ z)) (h p), I.hok, I.len⟩
theorem qI {N : List Str} (hN : N.Nodup) {i j : Nat} {x : Str} (a : N[i]? = some x) (b : N[j]? = some x) : i = j := by
  obtain ⟨h1, e1⟩ := List.getElem?_eq_some_iff.mp a
  obtain ⟨h2, e2⟩ := List.getElem?_eq_some_iff.mp b
  exact (List.getElem_inj hN).mp (e1.trans e2.symm)
theorem u5 {M : Model} {A : Around} {E : Value → Shared → Prop} {i : Nat} {x : Str} {v : V} {u : Value} {Q : Unit → Shared → Prop} (I : Inv X pins σ H s) (hN : X.N.Nodup) (hi : X.N[i]? = some x) (hx : Loc X.env.scope x) (r : RelV v u)
    (h : ∀ s', Inv X pins (σ.set i (some v)) H s' → (∃ a, Heap.SameBut a s.heap s'.heap ∧ (a = X.env.locals ∨ X.env.cells.lookup x = some a)) → Q () s') (hf : X.fn x = true ∨ X.env.scope.names.lookup x = some .local := by first | exact .inl rfl | exact .inr rfl | assumption) : wpAny M A (storeName X.env x u) Q E s := by
  obtain ⟨m, hn, hl⟩ := id I.loc
  have hcls : (X.env.scope.kind == .class || (X.env.scope.kind == .module && X.env.locals != X.env.globals)) = false := by rw [I.ok.kind]; rfl
  have hiσ : i < σ.length := by rw [I.len]; exact (List.getElem?_eq_some_iff.mp hi).1
  have cne := I.cne
  have tracked : ∀ {a : Addr} {h' : Heap}, (∃ o, s.heap.get? a = some o ∧ H a = none) → Heap.SameBut a s.heap h' → HOk X.prog X.w H h' := fun {a h'} ha hs b ob e => by
    obtain ⟨_, _, hfree⟩ := ha
    refine (I.hok b ob e).stay (fun c w' hc q => (hs.2 c ?_).trans q) (fun _ q => q) fun _ _ q => q
    rintro rfl
    rcases hc with rfl | hc
    · rw [hfree] at e; cases e
    · rw [hfree] at hc; cases hc
  rcases hx with hk | hk
  · refine wpAny_storeName_local hk hn (fun h' hn' hs => ?_) hcls
    obtain ⟨oL, _, _, hoL, _⟩ := id hn
    refine h _ ⟨I.ok, I.os, I.bare, ⟨fun b o e n hb hx => ?_, fun b o e n hb hx => ?_, I.base.free, fun b o e hx => ?_, I.base.tups, I.base.frzs, I.base.tbls⟩, ⟨_, hn', fun j y v' e1 e2 e3 => ?_⟩, fun y c e => ?_, I.free, I.freeC, fun p hp => ?_, tracked ⟨oL, hoL, I.free⟩ hs, by simpa using I.len⟩ ⟨_, hs, .inl rfl⟩
    · exact (hs.2 b (Nat.ne_of_lt (Nat.lt_of_lt_of_le (Heap.lt_size e) I.ok.above))).trans (I.base.keep b o e n hb hx)
    · obtain ⟨sl, e1⟩ := I.base.slot b o e n hb hx
      exact ⟨sl, (hs.2 b (Nat.ne_of_lt (Nat.lt_of_lt_of_le (Heap.lt_size e) I.ok.above))).trans e1⟩
    · obtain ⟨o', e1⟩ := I.base.there b o e hx
      exact ⟨o', (hs.2 b (Nat.ne_of_lt (Nat.lt_of_lt_of_le (Heap.lt_size e) I.ok.above))).trans e1⟩
    · by_cases hj : j = i
      · subst hj
        rw [hi] at e1; cases e1
        rw [List.getElem?_set_self hiσ] at e2
        cases e2
        exact ⟨u, r, .inl ⟨hk, by simp⟩⟩
      · rw [List.getElem?_set_ne (Ne.symm hj)] at e2
        obtain ⟨u', r', q⟩ := hl j y v' e1 e2 e3
        refine ⟨u', r', ?_⟩
        rcases q with ⟨k, e⟩ | ⟨k, c, e, z⟩
        · refine .inl ⟨k, ?_⟩
          have : y ≠ x := fun e => hj (qI hN e1 (e ▸ hi))
          simp [this, e]
        · exact .inr ⟨k, c, e, z.sameBut hs (cne y c e)⟩
    · obtain ⟨w', z⟩ := I.cell y c e
      exact ⟨w', z.sameBut hs (cne y c e)⟩
    · obtain ⟨e, n, ne, nf, d⟩ := I.pin p hp
      exact ⟨(hs.2 p.1 ne).trans e, n, ne, nf, d⟩
  · have hfn : X.fn x = true := by
      rcases hf with z | z
      · exact z
      · rw [z] at hk; cases hk
    obtain ⟨c, hc⟩ := I.ok.has x (.inl hk)
    obtain ⟨w', z⟩ := I.cell x c hc
    refine wpAny_storeName_cell I.ok.kind hk hc z (fun h' hc' hs => ?_)
    obtain ⟨oc, hoc, hocd⟩ := id z
    refine h { s with heap := h' } ⟨I.ok, I.os, I.bare, ⟨fun b o e n hb hx => ?_, fun b o e n hb hx => ?_, I.base.free, fun b o e hx => ?_, I.base.tups, I.base.frzs, I.base.tbls⟩, ⟨m, hn.sameBut hs (Ne.symm (cne x c hc)), fun j y v' e1 e2 e3 => ?_⟩, fun y c' e => ?_, I.free, I.freeC, fun p hp => ?_, tracked ⟨oc, hoc, I.freeC x c hc⟩ hs, by simpa using I.len⟩ ⟨c, hs, .inr hc⟩
    · exact (hs.2 b (Nat.ne_of_lt (Nat.lt_of_lt_of_le (Heap.lt_size e) (I.ok.cab x c hfn hc)))).trans (I.base.keep b o e n hb hx)
    · obtain ⟨sl, e1⟩ := I.base.slot b o e n hb hx
      exact ⟨sl, (hs.2 b (Nat.ne_of_lt (Nat.lt_of_lt_of_le (Heap.lt_size e) (I.ok.cab x c hfn hc)))).trans e1⟩
    · obtain ⟨o', e1⟩ := I.base.there b o e hx
      exact ⟨o', (hs.2 b (Nat.ne_of_lt (Nat.lt_of_lt_of_le (Heap.lt_size e) (I.ok.cab x c hfn hc)))).trans e1⟩
    · by_cases hj : j = i
      · subst hj
        rw [hi] at e1; cases e1
        rw [List.getElem?_set_self hiσ] at e2
        cases e2
        exact ⟨u, r, .inr ⟨.inl hk, c, hc, hc'⟩⟩
      · rw [List.getElem?_set_ne (Ne.symm hj)] at e2
        obtain ⟨u', r', q⟩ := hl j y v' e1 e2 e3
        refine ⟨u', r', ?_⟩
        rcases q with q | ⟨k, c', e, z'⟩
        · exact .inl q
        · refine .inr ⟨k, c', e, z'.sameBut hs ?_⟩
          rintro rfl
          exact hj (qI hN e1 (I.ok.inj _ _ _ e hc ▸ hi))
    · by_cases hcc : c' = c
      · subst hcc; exact ⟨_, hc'⟩
      · obtain ⟨w2, z2⟩ := I.cell y c' e
        exact ⟨w2, z2.sameBut hs hcc⟩
    · obtain ⟨e, n, ne, nf, d⟩ := I.pin p hp
      refine ⟨(hs.2 p.1 ?_).trans e, n, ne, nf, d⟩
      intro q
      rw [q, hoc] at e
      have q' : oc = p.2 := Option.some.inj e
      exact d w' (by rw [← q']; exact hocd)
theorem qJ {M : Model} {A : Around} {E : Value → Shared → Prop} {i : Nat} {x : Str} {v : V} {u : Value} {Q : Unit → Shared → Prop} (I : Inv X pins σ H s) (hN : X.N.Nodup) (hi : X.N[i]? = some x) (hx : Loc X.env.scope x) (r : RelV v u)
    (h : ∀ s', Inv X pins (σ.set i (some v)) H s' → Q () s') (hf : X.fn x = true ∨ X.env.scope.names.lookup x = some .local := by first | exact .inl rfl | exact .inr rfl | assumption) : wpAny M A (storeName X.env x u) Q E s :=
  u5 I hN hi hx r (fun s' I' _ => h s' I') hf
theorem Inv.call' {s' : Shared} {ch : List Addr} (I : Inv X pins σ H s) (ho : s'.os = s.os) (u : Un (frs X.stack) ch H H' s.heap s'.heap) (hok : HOk X.prog X.w H' s'.heap) (hg : AllBare s'.gens)
    (hch : ∀ b ∈ ch, (b ∈ X.ex ∨ X.s₀.heap.objs.size ≤ b) ∧ b ≠ X.env.locals ∧ (∀ x c, X.env.cells.lookup x = some c → c ≠ b) ∧ ∀ p ∈ X.pn ++ pins, p.1 ≠ b) : Inv X pins σ H' s' := by
  obtain ⟨h', g', d', t', o'⟩ := s'
  have e : o' = s.os := ho
  subst e
  exact I.call (g' := g') (t' := t') (d' := d') u hok hg hch
end
noncomputable abbrev XK := Value → Option Addr → Hp → Prop
noncomputable abbrev St := List (Option V)
noncomputable abbrev VK := V → Hp → Prop
noncomputable abbrev TE := St → Hp → VK → Prop
noncomputable abbrev TT := St → Hp → (Bool → Hp → Prop) → Prop
noncomputable abbrev TA := St → Hp → (List V → Hp → Prop) → Prop
structure Ends where
  nx : St → Hp → Prop
  rt : VK
  bk : St → Hp → Prop := fun _ _ => False
  ct : St → Hp → Prop := fun _ _ => False
noncomputable abbrev TS := Ends → St → Hp → Prop
noncomputable def EP (X : Cx) (pins : List (Addr × Obj)) (σ : St) (Q : VK) (u : Value) (s' : Shared) : Prop := ∃ v H', Inv X pins σ H' s' ∧ RelV v u ∧ Q v H'
noncomputable def TP (X : Cx) (pins : List (Addr × Obj)) (σ : St) (Q : Bool → Hp → Prop) (b : Bool) (s' : Shared) : Prop := ∃ H', Inv X pins σ H' s' ∧ Q b H'
noncomputable def AP (X : Cx) (pins : List (Addr × Obj)) (σ : St) (Q : List V → Hp → Prop) (us : List Value) (s' : Shared) : Prop := ∃ vs H', Inv X pins σ H' s' ∧ Vals vs us ∧ Q vs H'
noncomputable def SP (X : Cx) (pins : List (Addr × Obj)) (D : Ends) (f : Flow) (s' : Shared) : Prop :=
  match f with
  | .next => ∃ σ' H', Inv X pins σ' H' s' ∧ D.nx σ' H'
  | .brk => ∃ σ' H', Inv X pins σ' H' s' ∧ D.bk σ' H'
  | .cont => ∃ σ' H', Inv X pins σ' H' s' ∧ D.ct σ' H'
  | .ret u => ∃ v σ' H', Inv X pins σ' H' s' ∧ RelV v u ∧ D.rt v H'
noncomputable def PE (X : Cx) (e : Expr) (t : TE) : Prop :=
  ∀ (pins : List (Addr × Obj)) (s : Shared) (σ : St) (H : Hp) (Q : VK), Inv X pins σ H s → t σ H Q → wpAny (model X.prog X.w) X.A (eval e X.env) (EP X pins σ Q) X.xe s
noncomputable def PT (X : Cx) (e : Expr) (t : TT) : Prop :=
  ∀ (pins : List (Addr × Obj)) (s : Shared) (σ : St) (H : Hp) (Q : Bool → Hp → Prop), Inv X pins σ H s → t σ H Q → wpAny (model X.prog X.w) X.A (isTrue e X.env (eval e X.env)) (TP X pins σ Q) X.xe s
noncomputable def PW (X : Cx) (e : Expr) (t : TT) : Prop :=
  ∀ (whole : Sem Value) (pins : List (Addr × Obj)) (s : Shared) (σ : St) (H : Hp) (Q : Bool → Hp → Prop), Inv X pins σ H s → t σ H Q → wpAny (model X.prog X.w) X.A (isTrue e X.env whole) (TP X pins σ Q) X.xe s
theorem PW.pt {X : Cx} {e : Expr} {t : TT} (h : PW X e t) : PT X e t := h _
noncomputable def PA (X : Cx) (es : List Expr) (t : TA) : Prop :=
  ∀ (pos : Pos) (pins : List (Addr × Obj)) (s : Shared) (σ : St) (H : Hp) (Q : List V → Hp → Prop), Inv X pins σ H s → t σ H Q → wpAny (model X.prog X.w) X.A (spliced (backTo pos (starEach es X.env))) (AP X pins σ Q) X.xe s
noncomputable def PS (X : Cx) (st : Stmt) (t : TS) : Prop :=
  ∀ (pins : List (Addr × Obj)) (s : Shared) (σ : St) (H : Hp) (D : Ends), Inv X pins σ H s → t D σ H → wpAny (model X.prog X.w) X.A (exec st X.env) (SP X pins D) X.xe s
noncomputable def PSs (X : Cx) (st : List Stmt) (t : TS) : Prop :=
  ∀ (pins : List (Addr × Obj)) (s : Shared) (σ : St) (H : Hp) (D : Ends), Inv X pins σ H s → t D σ H → wpAny (model X.prog X.w) X.A (execs st X.env) (SP X pins D) X.xe s
theorem thn {α : Type} {t : Sem α} {Q Q' : α → Shared → Prop} {M : Model} {A : Around} {E : Value → Shared → Prop} {s : Shared} (h : wpAny M A t Q E s) (hQ : ∀ a s, Q a s → Q' a s) : wpAny M A t Q' E s := wpAny_mono h hQ fun _ _ x => x
end L2
namespace L2
open PySem PySem.Spec PyProof.Rows
section
variable {X : Cx}
noncomputable def kd (i : Nat) : TE := fun σ H Q => ∃ v, σ[i]? = some (some v) ∧ Q v H
noncomputable def tC (v : V) : TE := fun _ H Q => Q v H
theorem Us {i : Nat} {x : Str} {pos : Pos} (hN : X.N[i]? = some x) (hv : Vis X.env.scope x) (hd : (x == ("__debug__" : Str)) = false := by decide) (hcd : (x == ("__classdict__" : Str)) = false := by decide) : PE X (.Name x pos) (kd i) := by
  intro pins s σ H Q I h
  obtain ⟨v, e, h⟩ := h
  obtain ⟨m, hn, hl⟩ := I.loc
  obtain ⟨u, r, l⟩ := hl i x v hN e hv
  have fin : EP X pins σ Q u s := ⟨v, H, I, r, h⟩
  rcases l with ⟨hk, hm⟩ | ⟨hk, c, hc, hcell⟩
  · exact wpAny_Name (wpAny_loadName_local I.ok.kind hk hn hm fin) hd
  · rcases hk with hk | hk
    · exact wpAny_Name (wpAny_loadName_cell I.ok.kind hk hc hcell fin) hd
    · exact wpAny_Name (wpAny_loadName_free I.ok.kind hk hc hcell fin hcd) hd
theorem zf {i j pos} : PE X (.Constant (.int i) j pos) (tC (.int i)) := fun _ _ _ H _ I h => wpAny_Constant_int ⟨.int i, H, I.tok _, ⟨_, rfl⟩, h⟩
theorem yX {b j pos} : PE X (.Constant (.bool b) j pos) (tC (.bl b)) := fun _ _ _ H _ I h => Constant_bool ⟨.bl b, H, I, rfl, h⟩
theorem yz {j pos} : PE X (.Constant .none j pos) (tC .non) := fun _ _ _ H _ I h => Constant_none ⟨.non, H, I, rfl, h⟩
theorem zd {x j pos} : PE X (.Constant (.str x) j pos) (tC (.str x)) := fun _ _ _ H _ I h => Calls.Constant_str ⟨.str x, H, I.tok _, ⟨_, rfl⟩, h⟩
noncomputable def Gl (X : Cx) (x : Str) : Prop := X.env.kindOf x = some .globalImplicit
theorem uE {E : Value → Shared → Prop} {pins : List (Addr × Obj)} {s : Shared} {σ : St} {H : Hp} {x : Str} {u : Value} {pos : Pos} {Q : Value → Shared → Prop} (I : Inv X pins σ H s) (hg : Gl X x) (hm : X.mg x = some u) (h : Q u s)
    (hd : (x == ("__debug__" : Str)) = false := by decide) : wpAny (model X.prog X.w) X.A (eval (.Name x pos) X.env) Q E s :=
  Calls.Name_function_global I.ok.kind hg (Calls.loadGlobal_global (by rw [I.ok.glob]; exact I.mod.glob.keeps I.bk) hm h) hd
theorem x5 {E : Value → Shared → Prop} {pins : List (Addr × Obj)} {s : Shared} {σ : St} {H : Hp} {x : Str} {u : Value} {pos : Pos} {Q : Value → Shared → Prop} (I : Inv X pins σ H s) (hg : Gl X x) (hm : X.mg x = none) (hv : bootBuiltins x = some u) (h : Q u s)
    (hn : x ≠ "__name__" := by decide) (hd : (x == ("__debug__" : Str)) = false := by decide) : wpAny (model X.prog X.w) X.A (eval (.Name x pos) X.env) Q E s := by
  obtain ⟨mb, h1, h2⟩ := I.mod.blt
  exact Calls.Name_function_global I.ok.kind hg (Calls.loadGlobal_builtin (by rw [I.ok.glob]; exact I.mod.glob.keeps I.bk) hm (by rw [I.ok.blt]; exact h1.keeps I.bk) ((h2 x hn).trans hv) h) hd
theorem jI {x : Str} {v : V} {u : Value} {pos : Pos} (hg : Gl X x) (hm : X.mg x = some u) (r : RelV v u) (hd : (x == ("__debug__" : Str)) = false := by decide) : PE X (.Name x pos) (tC v) :=
  fun _ _ _ H _ I h => uE I hg hm ⟨v, H, I, r, h⟩ hd
theorem vy {x : Str} {v : V} {u : Value} {pos : Pos} (hg : Gl X x) (hm : X.mg x = none) (hv : bootBuiltins x = some u) (r : RelV v u) (hn : x ≠ "__name__" := by decide) (hd : (x == ("__debug__" : Str)) = false := by decide) : PE X (.Name x pos) (tC v) :=
  fun _ _ _ H _ I h => x5 I hg hm hv ⟨v, H, I, r, h⟩ hn hd
variable {a b : Expr} {ta tb : TE} {pos : Pos}
noncomputable def tB (t : TE) : TT := fun σ H Q => t σ H fun x H1 => ∃ c, x = .bl c ∧ Q c H1
theorem yq {e : Expr} {t : TE} (h : PE X e t) (he : ∀ whole, isTrue e X.env whole = (do let v ← whole; standAt e.pos; holding [v] (truthy v)) := by intro _; rfl) : PT X e (tB t) := by
  intro pins s σ H Q I hw
  refine isTrue_plain (thn (h pins s σ H _ I hw) fun v s1 ⟨x, H1, I1, r1, q1⟩ => ?_) (he _)
  obtain ⟨d, rfl, q⟩ := q1
  cases r1
  exact wpAny_truthy_bool ⟨H1, I1, q⟩
variable {tA tB' : TT} {zO : List Expr}
noncomputable def Ut (t u : TT) : TT := fun σ H Q => t σ H fun c H1 => if c = true then u σ H1 Q else Q false H1
noncomputable def tOr (t u : TT) : TT := fun σ H Q => t σ H fun c H1 => if c = true then Q true H1 else u σ H1 Q
noncomputable def Uu (t : TT) : TT := fun σ H Q => t σ H fun c H1 => Q (!c) H1
theorem y6 (ha : PT X a tA) : PW X (.BoolOp .And [a] pos) tA := by
  intro wh pins s σ H Q I h
  refine isTrue_and (thn (ha pins s σ H Q I h) fun c s1 e => ?_)
  cases c with
  | true => exact isTrue_and_nil e
  | false => exact e
theorem yA (ha : PT X a tA) : PW X (.BoolOp .Or [a] pos) tA := by
  intro wh pins s σ H Q I h
  refine isTrue_or (thn (ha pins s σ H Q I h) fun c s1 e => ?_)
  cases c with
  | false => exact isTrue_or_nil e
  | true => exact e
theorem xG (ha : PT X a tA) (hb : PW X (.BoolOp .And (b :: zO) pos) tB') : PW X (.BoolOp .And (a :: b :: zO) pos) (Ut tA tB') := by
  intro wh pins s σ H Q I h
  refine isTrue_and (thn (ha pins s σ H _ I h) fun c s1 ⟨H1, I1, q1⟩ => ?_)
  cases c with
  | true => exact hb wh pins s1 σ H1 Q I1 q1
  | false => exact ⟨H1, I1, q1⟩
theorem yM (ha : PT X a tA) (hb : PW X (.BoolOp .Or (b :: zO) pos) tB') : PW X (.BoolOp .Or (a :: b :: zO) pos) (tOr tA tB') := by
  intro wh pins s σ H Q I h
  refine isTrue_or (thn (ha pins s σ H _ I h) fun c s1 ⟨H1, I1, q1⟩ => ?_)
  cases c with
  | true => exact ⟨H1, I1, q1⟩
  | false => exact hb wh pins s1 σ H1 Q I1 q1
theorem x6 (ha : PT X a tA) : PT X (.UnaryOp .Not a pos) (Uu tA) := by
  intro pins s σ H Q I h
  exact isTrue_not (ha pins s σ H (fun c H1 => Q (!c) H1) I h)
noncomputable def Xq (ta tb : TE) : TE := fun σ H Q => ta σ H fun x H1 => ∃ c, x = .bl c ∧ if c = true then tb σ H1 Q else Q (.bl false) H1
noncomputable def Uv (ta tb : TE) : TE := fun σ H Q => ta σ H fun x H1 => ∃ c, x = .bl c ∧ if c = true then Q (.bl true) H1 else tb σ H1 Q
theorem qK {op} {t : TE} (h : PE X a t) : PE X (.BoolOp op [a] pos) t := fun pins s σ H Q I hw => BoolOp_one (h pins s σ H Q I hw)
theorem Uw (ha : PE X a ta) (hb : PE X (.BoolOp .And (b :: zO) pos) tb) : PE X (.BoolOp .And (a :: b :: zO) pos) (Xq ta tb) := by
  intro pins s σ H Q I h
  refine BoolOp_and (thn (ha pins s σ H _ I h) fun v s1 ⟨x, H1, I1, r1, q1⟩ => ?_)
  obtain ⟨c, rfl, q1⟩ := q1
  cases r1
  refine wpAny_truthy_bool ?_
  cases c with
  | true => exact hb pins s1 σ H1 Q I1 q1
  | false => exact ⟨.bl false, H1, I1, rfl, q1⟩
theorem QX (ha : PE X a ta) (hb : PE X (.BoolOp .Or (b :: zO) pos) tb) : PE X (.BoolOp .Or (a :: b :: zO) pos) (Uv ta tb) := by
  intro pins s σ H Q I h
  refine BoolOp_or (thn (ha pins s σ H _ I h) fun v s1 ⟨x, H1, I1, r1, q1⟩ => ?_)
  obtain ⟨c, rfl, q1⟩ := q1
  cases r1
  refine wpAny_truthy_bool ?_
  cases c with
  | false => exact hb pins s1 σ H1 Q I1 q1
  | true => exact ⟨.bl true, H1, I1, rfl, q1⟩
noncomputable def tIf (t : TT) (ta tb : TE) : TE := fun σ H Q => t σ H fun c H1 => if c = true then ta σ H1 Q else tb σ H1 Q
theorem xg {c : Expr} (hc : PT X c tA) (ha : PE X a ta) (hb : PE X b tb) : PE X (.IfExp c a b pos) (tIf tA ta tb) := by
  intro pins s σ H Q I h
  refine wpAny_IfExp (thn (hc pins s σ H _ I h) fun d s1 ⟨H1, I1, q1⟩ => ?_)
  cases d with
  | true => exact ha pins s1 σ H1 Q I1 q1
  | false => exact hb pins s1 σ H1 Q I1 q1
end
end L2
namespace L2
open PySem PySem.Spec PyProof.Rows
noncomputable def SqL (K : PySem.W.Frag) (H : Hp) (a : Addr) (xs : List V) : Prop :=
  Rd H a (.lst xs) ∨
    ∃ (o : Obj) (its : Array Value) (n : Nat), K.lookup a = some o ∧ o.cls = .type "list" ∧ o.dict = none ∧ o.data = .seq its n ∧ its.size ≤ sizeLine ∧ Vals xs its.toList
noncomputable def SqT (K : PySem.W.Frag) (H : Hp) (a : Addr) (xs : List V) : Prop :=
  Rd H a (.tup xs) ∨
    ∃ (o : Obj) (its : Array Value) (n : Nat), K.lookup a = some o ∧ o.cls = .type "tuple" ∧ o.data = .seq its n ∧ its.size ≤ sizeLine ∧ Vals xs its.toList
noncomputable def Js : Value → Option V
  | .none => some .non
  | .bool b => some (.bl b)
  | .int i _ => some (.int i)
  | .str x _ => some (.str x)
  | .bytes b _ => some (.byt b)
  | .float b _ => some (.flt b)
  | .ref a => some (.ref a)
  | .type n => some (.ty n)
  | _ => none
theorem RelV.abs {x : V} {u : Value} (r : RelV x u) : Js u = some x := by
  cases x with
  | non => cases r; rfl
  | bl _ => cases r; rfl
  | int _ => obtain ⟨t, rfl⟩ := r; rfl
  | str _ => obtain ⟨t, rfl⟩ := r; rfl
  | byt _ => obtain ⟨t, rfl⟩ := r; rfl
  | flt _ => obtain ⟨t, rfl⟩ := r; rfl
  | ref _ => cases r; rfl
  | ty _ => cases r; rfl
theorem RelV.inj {x y : V} {u : Value} (r : RelV x u) (q : RelV y u) : x = y := Option.some.inj (r.abs.symm.trans q.abs)
theorem Vals.inj : ∀ {xs ys : List V} {us : List Value}, Vals xs us → Vals ys us → xs = ys
  | _, _, _, .nil, .nil => rfl
  | _, _, _, .cons r t, .cons r' t' => by rw [r.inj r', Vals.inj t t']
section
variable {X : Cx} {pins : List (Addr × Obj)} {σ : St} {H : Hp} {s : Shared} {a : Addr} {xs ys : List V}
theorem SqL.of {K : PySem.W.Frag} (h : H a = some (.lst xs)) : SqL K H a xs := .inl (.inl h)
theorem SqT.of {K : PySem.W.Frag} (h : H a = some (.tup xs)) : SqT K H a xs := .inl (.inl h)
theorem Inv.list (I : Inv X pins σ H s) (h : SqL X.K H a xs) : ∃ its : List Value, Vals xs its ∧ PlainL s.heap a its.toArray ∧ xs.length ≤ sizeLine := by
  rcases h with h | ⟨o, its, n, hk, hc, hd, hs, hz, r⟩
  · obtain ⟨z, its, n, r, e⟩ := h.ok I.hok
    exact ⟨its, r, ⟨_, n, e, rfl, rfl, rfl⟩, z⟩
  · refine ⟨its.toList, r, ⟨o, n, I.kIn a o hk, hc, hd, by simpa using hs⟩, ?_⟩
    have e := r.length
    simp only [Array.length_toList] at e
    omega
theorem Inv.tuple (I : Inv X pins σ H s) (h : SqT X.K H a xs) : ∃ its : List Value, Vals xs its ∧ IsTup s.heap a its.toArray ∧ xs.length ≤ sizeLine := by
  rcases h with h | ⟨o, its, n, hk, hc, hs, hz, r⟩
  · obtain ⟨z, its, r, p⟩ := h.ok I.hok
    exact ⟨its, r, p, z⟩
  · refine ⟨its.toList, r, ⟨o, I.kIn a o hk, hc, n, by simpa using hs⟩, ?_⟩
    have e := r.length
    simp only [Array.length_toList] at e
    omega
theorem Inv.list_inj (I : Inv X pins σ H s) (h : SqL X.K H a xs) (h' : SqL X.K H a ys) : xs = ys := by
  obtain ⟨its, r, ⟨o, n, e, _, _, d⟩, _⟩ := I.list h
  obtain ⟨its', r', ⟨o', n', e', _, _, d'⟩, _⟩ := I.list h'
  rw [e] at e'; cases e'
  rw [d] at d'
  injection d' with d1 _
  have : its = its' := by simpa using congrArg Array.toList d1
  subst this
  exact r.inj r'
theorem Inv.tuple_inj (I : Inv X pins σ H s) (h : SqT X.K H a xs) (h' : SqT X.K H a ys) : xs = ys := by
  obtain ⟨its, r, ⟨o, e, _, n, d⟩, _⟩ := I.tuple h
  obtain ⟨its', r', ⟨o', e', _, n', d'⟩, _⟩ := I.tuple h'
  rw [e] at e'; cases e'
  rw [d] at d'
  injection d' with d1 _
  have : its = its' := by simpa using congrArg Array.toList d1
  subst this
  exact r.inj r'
end
noncomputable abbrev Cx.wish (X : Cx) (E : Value → Shared → Prop) : Cx := { X with xe := E }
noncomputable abbrev Cx.nox (X : Cx) : Cx := X.wish fun _ _ => False
theorem Cx.Ok.wish {X : Cx} (ok : X.Ok) (E : Value → Shared → Prop) : (X.wish E).Ok :=
  ⟨ok.mod, ok.kind, ok.glob, ok.blt, ok.above, ok.inj, ok.has, ok.cab, ok.hd, ok.frames, ok.stk, ok.exf, ok.bs, ok.bsz, ok.noex, ok.exfs, ok.funs, ok.frf⟩
theorem Cx.Ok.unwish {X : Cx} {E : Value → Shared → Prop} (ok : (X.wish E).Ok) : X.Ok :=
  ⟨ok.mod, ok.kind, ok.glob, ok.blt, ok.above, ok.inj, ok.has, ok.cab, ok.hd, ok.frames, ok.stk, ok.exf, ok.bs, ok.bsz, ok.noex, ok.exfs, ok.funs, ok.frf⟩
section
variable {X : Cx} {pins : List (Addr × Obj)} {σ : St} {H : Hp} {s : Shared} {E : Value → Shared → Prop}
theorem Inv.wish (I : Inv X pins σ H s) (E : Value → Shared → Prop) : Inv (X.wish E) pins σ H s := ⟨I.ok.wish E, I.os, I.bare, I.base, I.loc, I.cell, I.free, I.freeC, I.pin, I.hok, I.len⟩
theorem Inv.unwish (I : Inv (X.wish E) pins σ H s) : Inv X pins σ H s := ⟨I.ok.unwish, I.os, I.bare, I.base, I.loc, I.cell, I.free, I.freeC, I.pin, I.hok, I.len⟩
theorem SP.unwish {D : Ends} {f : Flow} {s' : Shared} (h : SP (X.wish E) pins D f s') : SP X pins D f s' := by
  cases f with
  | next => obtain ⟨σ', H', I, q⟩ := h; exact ⟨σ', H', I.unwish, q⟩
  | brk => obtain ⟨σ', H', I, q⟩ := h; exact ⟨σ', H', I.unwish, q⟩
  | cont => obtain ⟨σ', H', I, q⟩ := h; exact ⟨σ', H', I.unwish, q⟩
  | ret u => obtain ⟨v, σ', H', I, r, q⟩ := h; exact ⟨v, σ', H', I.unwish, r, q⟩
theorem PE.nox {e : Expr} {t : TE} (h : PE X.nox e t) : PE X e t := fun pins s σ H Q I hw =>
  wpAny_mono (h pins s σ H Q (I.wish _) hw) (fun _ _ ⟨v, H', I', r, q⟩ => ⟨v, H', I'.unwish, r, q⟩) fun _ _ z => False.elim z
theorem PT.nox {e : Expr} {t : TT} (h : PT X.nox e t) : PT X e t := fun pins s σ H Q I hw =>
  wpAny_mono (h pins s σ H Q (I.wish _) hw) (fun _ _ ⟨H', I', q⟩ => ⟨H', I'.unwish, q⟩) fun _ _ z => False.elim z
theorem PSs.nox {st : List Stmt} {t : TS} (h : PSs X.nox st t) : PSs X st t := fun pins s σ H D I hw =>
  wpAny_mono (h pins s σ H D (I.wish _) hw) (fun _ _ q => q.unwish) fun _ _ z => False.elim z
end
section
variable {X : Cx} {st : Stmt} {zO : List Stmt} {t u : TS} {e : Expr} {te : TE} {pos : Pos}
noncomputable def Xr : TS := fun D σ H => D.nx σ H
noncomputable def Ux (t u : TS) : TS := fun D σ H => t { D with nx := u D } σ H
theorem zB : PSs X [] Xr := fun _ _ σ H _ I h => wpAny_execs_nil ⟨σ, H, I, h⟩
theorem zb (h1 : PS X st t) (h2 : PSs X zO u) : PSs X (st :: zO) (Ux t u) := by
  intro pins s σ H D I h
  refine wpAny_execs_cons (thn (h1 pins s σ H { D with nx := u D } I h) fun f s1 q => ?_)
  cases f with
  | next =>
    obtain ⟨σ', H', I', q⟩ := q
    exact h2 pins s1 σ' H' D I' q
  | ret v => exact q
  | brk => exact q
  | cont => exact q
theorem zg (h1 : PS X st t) : PSs X [st] t := by
  intro pins s σ H D I h
  refine wpAny_execs_cons (thn (h1 pins s σ H D I h) fun f s1 q => ?_)
  cases f with
  | next => exact wpAny_execs_nil q
  | ret v => exact q
  | brk => exact q
  | cont => exact q
noncomputable def Xs : TS := fun D σ H => D.ct σ H
theorem vQ : PS X (.Continue pos) Xs := fun _ _ σ H _ I h => wpAny_Continue ⟨σ, H, I, h⟩
theorem Inv.quiet {pins : List (Addr × Obj)} {σ : St} {H : Hp} {s : Shared} (I : Inv X pins σ H s) : interactive X.env = false := by simp [interactive, I.ok.kind]
noncomputable def Xt (te : TE) : TS := fun D σ H => te σ H fun _ H1 => D.nx σ H1
theorem yw (he : PE X e te) (hs : swapsWith e none pos.line X.env = pure false := by rfl) : PS X (.Expr e pos) (Xt te) := by
  intro pins s σ H D I h
  exact wpAny_Expr_any (thn (he pins s σ H _ I h) fun v s1 ⟨x, H1, I1, r1, q1⟩ => ⟨σ, H1, I1, q1⟩) I.quiet hs
noncomputable def Uy (te : TE) : TS := fun D σ H => te σ H D.rt
theorem zn (he : PE X e te) : PS X (.Return (some e) pos) (Uy te) := by
  intro pins s σ H D I h
  exact wpAny_Return_some (thn (he pins s σ H _ I h) fun v s1 ⟨x, H1, I1, r1, q1⟩ => ⟨x, σ, H1, I1, r1, q1⟩)
noncomputable def Uz (c : TT) (t u : TS) : TS := fun D σ H => c σ H fun b H1 => if b = true then t D σ H1 else u D σ H1
theorem zL {c : Expr} {a b : List Stmt} {tc : TT} (hc : PT X c tc) (ha : PSs X a t) (hb : PSs X b u) : PS X (.If c a b pos) (Uz tc t u) := by
  intro pins s σ H D I h
  refine wpAny_If (thn (hc pins s σ H _ I h) fun d s1 ⟨H1, I1, q1⟩ => ?_)
  cases d with
  | true => exact ha pins s1 σ H1 D I1 q1
  | false => exact hb pins s1 σ H1 D I1 q1
end
noncomputable abbrev TG := V → St → Hp → (St → Hp → Prop) → Prop
noncomputable abbrev TGs := List V → St → Hp → (St → Hp → Prop) → Prop
noncomputable def PG (X : Cx) (target : Expr) (t : TG) : Prop :=
  ∀ (pins : List (Addr × Obj)) (s : Shared) (σ : St) (H : Hp) (v : V) (u : Value) (Q : St → Hp → Prop), Inv X pins σ H s → RelV v u → t v σ H Q →
    wpAny (model X.prog X.w) X.A (assign target X.env u) (fun _ s' => ∃ σ' H', Inv X pins σ' H' s' ∧ Q σ' H') X.xe s
noncomputable def PGs (X : Cx) (ts : List Expr) (t : TGs) : Prop :=
  ∀ (pins : List (Addr × Obj)) (s : Shared) (σ : St) (H : Hp) (vs : List V) (us : List Value) (Q : St → Hp → Prop), Inv X pins σ H s → Vals vs us → t vs σ H Q →
    wpAny (model X.prog X.w) X.A (assignInOrder ((assignEach ts X.env).map (·.2)) us) (fun _ s' => ∃ σ' H', Inv X pins σ' H' s' ∧ Q σ' H') X.xe s
section
variable {X : Cx} {pos : Pos}
noncomputable def vz (i : Nat) : TG := fun v σ H Q => Q (σ.set i (some v)) H
theorem zI {i : Nat} {x : Str} (hN : X.N.Nodup) (hi : X.N[i]? = some x) (hx : Loc X.env.scope x) (hf : X.fn x = true ∨ X.env.scope.names.lookup x = some .local := by first | exact .inl rfl | exact .inr rfl | assumption) : PG X (.Name x pos) (vz i) := by
  intro pins s σ H v u Q I r h
  exact wpAny_assign_Name (qJ I hN hi hx r (fun s' I' => ⟨_, H, I', h⟩) hf)
noncomputable def UA : TGs := fun vs σ H Q => vs = [] ∧ Q σ H
noncomputable def Xu (t : TG) (u : TGs) : TGs := fun vs σ H Q => ∃ v r, vs = v :: r ∧ t v σ H fun σ' H' => u r σ' H' Q
theorem uF : PGs X [] UA := by
  intro pins s σ H vs us Q I r h
  obtain ⟨e, h⟩ := h
  subst e
  cases r
  exact assignInOrder_nil ⟨σ, H, I, h⟩
theorem yF {e : Expr} {es : List Expr} {t : TG} {u : TGs} (h1 : PG X e t) (h2 : PGs X es u)
    (hs : (assignEach (e :: es) X.env).map (·.2) = assign e X.env :: (assignEach es X.env).map (·.2) := by rfl) : PGs X (e :: es) (Xu t u) := by
  intro pins s σ H vs us Q I r h
  obtain ⟨v, vr, e1, h⟩ := h
  subst e1
  cases r with
  | cons r rr =>
    rw [hs]
    refine assignInOrder_cons (thn (h1 pins s σ H _ _ _ I r h) fun _ s1 ⟨σ1, H1, I1, q1⟩ => ?_)
    exact h2 pins s1 σ1 H1 _ _ Q I1 rr q1
noncomputable def Z8 (K : PySem.W.Frag) (n : Nat) (t : TGs) : TG := fun v σ H Q => ∃ a xs, v = .ref a ∧ SqT K H a xs ∧ xs.length = n ∧ t xs σ H Q
theorem UB {es : List Expr} {k : Nat} {t : TGs} {n : Nat} (hc : X.calm = true) (h : PGs X es t)
    (hn : (assignEach es X.env).length = n := by rfl) (hst : (assignEach es X.env).findIdx? (·.1) = none := by rfl) : PG X (.Tuple es k pos) (Z8 X.K n t) := by
  intro pins s σ H v u Q I r hw
  obtain ⟨a, xs, e1, hq, hl, hw⟩ := hw
  subst e1
  cases r
  obtain ⟨its, rv, ht, hz⟩ := I.tuple hq
  refine assign_Tuple_tuple (I.ok.hd hc) ht (by simp [hn, ← hl, rv.length]) hst fun h' hx => ?_
  have I1 : Inv X pins σ H { s with heap := h' } := I.kept (t' := s.toks) fun b o e => hx b o (Nat.ne_of_lt (Heap.lt_size e)) e
  exact h pins _ σ H xs _ Q I1 (by simpa using rv) hw
noncomputable def qL (te : TE) (g : TG) : TS := fun D σ H => te σ H fun x H1 => g x σ H1 D.nx
theorem Zb {tg e : Expr} {te : TE} {g : TG} (he : PE X e te) (hg : PG X tg g) (hs : swapsWithSole [tg] e pos.line X.env = pure false := by rfl) (hw : swappedStores [tg] e X.env = pure none := by rfl)
    (h1 : (assignEach [tg] X.env).map (·.2) = [assign tg X.env] := by rfl) : PS X (.Assign [tg] e pos) (qL te g) := by
  intro pins s σ H D I h
  refine wpAny_Assign_stores (thn (he pins s σ H _ I h) fun v s1 ⟨x, H1, I1, r1, q1⟩ => ?_) hs hw
  rw [h1]
  exact thn (hg pins s1 σ H1 x v _ I1 r1 q1) fun _ s2 q => q
theorem zm {i : Nat} {x : Str} {e : Expr} {te : TE} {pos' : Pos} (hN : X.N.Nodup) (hi : X.N[i]? = some x) (hx : Loc X.env.scope x) (he : PE X e te) (hs : swapsWith e (some (.Name x pos')) pos.line X.env = pure false := by rfl) (hf : X.fn x = true ∨ X.env.scope.names.lookup x = some .local := by first | exact .inl rfl | exact .inr rfl | assumption) :
    PS X (.Assign [.Name x pos'] e pos) (qL te (vz i)) := by
  intro pins s σ H D I h
  refine wpAny_Assign_Name (thn (he pins s σ H _ I h) fun v s1 ⟨y, H1, I1, r1, q1⟩ => ?_) hs
  exact qJ I1 hN hi hx r1 (fun s2 I2 => ⟨_, H1, I2, q1⟩) hf
end
section
variable {X : Cx} {pos : Pos}
noncomputable def Zc (c : TT) (tb : TS) : TS := fun D σ H => ∃ W : Nat → St → Hp → Prop, (∃ m, W m σ H) ∧ ∀ m σ H, W m σ H →
  c σ H fun b H1 => if b = true then ∃ N : St → Hp → Prop, (∀ σ' H', N σ' H' → ∃ m', m' < m ∧ W m' σ' H') ∧ tb { D with nx := N, ct := N, bk := D.nx } σ H1 else D.nx σ H1
theorem qM {c : Expr} {body : List Stmt} {tc : TT} {tb : TS} (hp : PassesOwn (model X.prog X.w) X.A X.env X.xe) (hc : PT X c tc) (hb : PSs X body tb) : PS X (.While c body [] pos) (Zc tc tb) := by
  intro pins s σ H D I h
  obtain ⟨W, ⟨m0, w0⟩, turn⟩ := h
  refine wpAny_While (codeAny_whileLoop (fun n s' => ∃ σ' H', Inv X pins σ' H' s' ∧ W n σ' H') ?_ m0 ⟨σ, H, I, w0⟩)
  rintro n s1 ⟨σ1, H1, I1, w1⟩
  refine wpAny_passesOwn hp (thn (hc pins s1 σ1 H1 _ I1 (turn n σ1 H1 w1)) fun b s2 ⟨H2, I2, q2⟩ => ?_)
  cases b with
  | true =>
    obtain ⟨N, hN, q2⟩ := q2
    rw [if_pos rfl]
    refine wpAny_passesOwn hp (thn (hb pins s2 σ1 H2 _ I2 q2) fun f s3 q3 => ?_)
    cases f with
    | next =>
      obtain ⟨σ3, H3, I3, n3⟩ := q3
      obtain ⟨m', hm, w3⟩ := hN σ3 H3 n3
      exact ⟨m', hm, σ3, H3, I3, w3⟩
    | cont =>
      obtain ⟨σ3, H3, I3, n3⟩ := q3
      obtain ⟨m', hm, w3⟩ := hN σ3 H3 n3
      exact ⟨m', hm, σ3, H3, I3, w3⟩
    | brk => exact q3
    | ret v => exact q3
  | false =>
    rw [if_neg Bool.false_ne_true]
    exact wpAny_execs_nil ⟨σ1, H2, I2, q2⟩
end
structure It where
  go : Nat → Hp → Prop
  yld : Nat → Hp → V → Hp → Prop
  stop : Nat → Hp → Prop
noncomputable def FpOk (X : Cx) (pins : List (Addr × Obj)) (H : Hp) (b : Addr) : Prop :=
  H b = none ∧ b ≠ X.env.locals ∧ b ∉ X.fs ∧ (b ∈ X.ex ∨ X.s₀.heap.objs.size ≤ b) ∧ (∀ x c, X.env.cells.lookup x = some c → c ≠ b) ∧ ∀ p ∈ X.pn ++ pins, p.1 ≠ b
theorem Inv.fpOk {X : Cx} {pins : List (Addr × Obj)} {σ : St} {H H' : Hp} {s : Shared} {b : Addr} (I : Inv X pins σ H s) (hb : s.heap.objs.size ≤ b) (hn : H' b = none) : FpOk X pins H' b := by
  refine ⟨hn, Nat.ne_of_gt (Nat.lt_of_lt_of_le I.lt hb), I.nofs hb, .inr (Nat.le_trans I.sz hb), fun x c e z => ?_, fun p hp z => ?_⟩
  · obtain ⟨v, q⟩ := I.cell x c e
    exact absurd (Nat.lt_of_lt_of_le q.lt (by rw [z]; exact hb)) (Nat.lt_irrefl _)
  · exact absurd (Nat.lt_of_lt_of_le (Heap.lt_size (I.pin p hp).1) (by rw [z]; exact hb)) (Nat.lt_irrefl _)
structure Turn (P : Program) (w : World) (K : PySem.W.Frag) (tg : Expr) (J : It) (fp : List Addr) (it : Addr) (tn : Nat → Heap → Prop) : Prop where
  mem : it ∈ fp
  obj : ∀ i h, tn i h → ∀ b ∈ fp, ∃ o, h.get? b = some o ∧ ∀ v, o.data ≠ .cell v
  keep : ∀ i h h', tn i h → (∀ b ∈ fp, ∀ o, h.get? b = some o → h'.get? b = some o) → tn i h'
  item : ∀ (X : Cx), X.prog = P → X.w = w → X.K = K → X.calm = true → ∀ (i : Nat) (pins : List (Addr × Obj)) (s : Shared) (σ : St) (H : Hp) (E : Value → Shared → Prop), Inv X pins σ H s → (∀ b ∈ fp, FpOk X pins H b) → tn i s.heap → J.go i H →
    wpAny (model P w) X.A (pyNext (.ref it)) (fun r s1 => ∃ u, r = some u ∧
      wpAny (model P w) X.A (letOwnedTupleGo tg (.ref it) u) (fun _ s2 => ∃ x H', Inv X pins σ H' s2 ∧ RelV x u ∧ J.yld i H x H' ∧ tn (i + 1) s2.heap ∧ ∀ b ∈ fp, H' b = none) E s1) E s
  done : ∀ (X : Cx), X.prog = P → X.w = w → X.K = K → X.calm = true → ∀ (i : Nat) (pins : List (Addr × Obj)) (s : Shared) (σ : St) (H : Hp) (E : Value → Shared → Prop), Inv X pins σ H s → (∀ b ∈ fp, FpOk X pins H b) → tn i s.heap → J.stop i H →
    wpAny (model P w) X.A (pyNext (.ref it)) (fun r s1 => r = none ∧ Inv X pins σ H s1) E s
  self : ∀ (A : Around) (i : Nat) (s : Shared) (Q : Value → Shared → Prop) (E : Value → Shared → Prop), tn i s.heap → Q (.ref it) s → wpAny (model P w) A (pyIter (.ref it)) Q E s
noncomputable abbrev TI := St → Hp → (It → Hp → Prop) → Prop
noncomputable def PIE (X : Cx) (pins : List (Addr × Obj)) (σ : St) (tg : Expr) (R : It → Hp → Prop) (itv : Value) (s2 : Shared) : Prop :=
  ∃ (it : Addr) (fp : List Addr) (tn : Nat → Heap → Prop) (J : It) (H' : Hp), itv = .ref it ∧ Inv X pins σ H' s2 ∧ Turn X.prog X.w X.K tg J fp it tn ∧ tn 0 s2.heap ∧ (∀ b ∈ fp, FpOk X pins H' b) ∧ R J H'
noncomputable def PI (X : Cx) (tg iter : Expr) (wi : TI) : Prop :=
  ∀ (pins : List (Addr × Obj)) (s : Shared) (σ : St) (H : Hp) (R : It → Hp → Prop), Inv X pins σ H s → wi σ H R →
    wpAny (model X.prog X.w) X.A (eval iter X.env) (fun v s1 => wpAny (model X.prog X.w) X.A (pyIter v) (PIE X pins σ tg R) X.xe s1) X.xe s
theorem qz {M : Model} {A : Around} {E : Value → Shared → Prop} {s : Shared} {tg : Expr} {it : Addr} {u : Value} {o : Obj} {n : String} {vs : Array Value} {Q : Unit → Shared → Prop} (ho : s.heap.get? it = some o) (hc : o.cls = .type n) (hd : o.data = .fields vs)
    (hn : ["enumerate", "zip", "dict_itemiterator", "dict_reverseitemiterator", "odict_iterator", "itertools.zip_longest", "itertools.pairwise"].contains n = false) (hQ : Q () s) : wpAny M A (letOwnedTupleGo tg (.ref it) u) Q E s := by
  unfold letOwnedTupleGo
  cases tg <;> first
    | exact wpAny_pure hQ
    | (cases u <;> first
        | exact wpAny_pure hQ
        | (refine wpAny_bind (wpAny_load ho ?_)
           rw [hc, hd]
           show wpAny M A (if (["enumerate", "zip", "dict_itemiterator", "dict_reverseitemiterator", "odict_iterator", "itertools.zip_longest", "itertools.pairwise"].contains n && vs[0]? == some (rawInt _)) = true then _ else _) Q E s
           rw [if_neg (by intro h; rw [hn, Bool.false_and] at h; cases h)]
           exact wpAny_pure hQ))
noncomputable def Itl (K : PySem.W.Frag) (a : Addr) : It :=
  ⟨fun i H => ∃ xs x, SqL K H a xs ∧ xs[i]? = some x, fun i H x H' => H' = H ∧ ∀ xs, SqL K H a xs → xs[i]? = some x, fun i H => ∃ xs, SqL K H a xs ∧ xs.length ≤ i⟩
noncomputable def Itt (K : PySem.W.Frag) (a : Addr) : It :=
  ⟨fun i H => ∃ xs x, SqT K H a xs ∧ xs[i]? = some x, fun i H x H' => H' = H ∧ ∀ xs, SqT K H a xs → xs[i]? = some x, fun i H => ∃ xs, SqT K H a xs ∧ xs.length ≤ i⟩
noncomputable def Itr (lo : Int) (n : Nat) : It := ⟨fun i _ => i < n, fun i H x H' => H' = H ∧ x = .int (lo + i), fun i _ => n ≤ i⟩
theorem Zd {P : Program} {w : World} {K : PySem.W.Frag} {tg : Expr} (a it : Addr) : Turn P w K tg (Itl K a) [it] it (fun i h => h.IsListIter it a i) where
  mem := by simp
  obj := fun i h st b hb => by
    have e : b = it := by simpa using hb
    subst e
    obtain ⟨o, e, c, d⟩ := st
    exact ⟨o, e, fun v z => by rw [d] at z; cases z⟩
  keep := fun i h h' st k => st.at fun o e => k it (by simp) o e
  item := by
    intro X hP hw hK hc i pins s σ H E I hf st hg
    subst hP hw hK
    obtain ⟨xs, x, hq, hx⟩ := hg
    obtain ⟨its, rv, p, hz⟩ := I.list hq
    obtain ⟨u, hu, ru⟩ := rv.get hx
    obtain ⟨f0, f1, f2, f3, f4, f5⟩ := hf it (by simp)
    refine wpAny_pyNext_list_item st p.isList (x := u) (by simpa using hu) fun h' st' sb => ?_
    have I1 : Inv X pins σ H { s with heap := h' } := I.turned (t' := s.toks) (fun b o hb e => (sb.2 b hb).trans e) f0 f1 f3 f4 f5
    obtain ⟨o, e, c, d⟩ := id st'
    exact ⟨u, rfl, qz (s := { s with heap := h' }) e c d (by decide) ⟨x, H, I1, ru, ⟨rfl, fun ys hy => by rw [I.list_inj hy hq]; exact hx⟩, st', fun b hb => (hf b hb).1⟩⟩
  done := by
    intro X hP hw hK hc i pins s σ H E I hf st hg
    subst hP hw hK
    obtain ⟨xs, hq, hx⟩ := hg
    obtain ⟨its, rv, p, hz⟩ := I.list hq
    obtain ⟨f0, f1, f2, f3, f4, f5⟩ := hf it (by simp)
    have hl := rv.length
    exact wpAny_pyNext_list_end (I.ok.hd hc) st p.isList (by simp; omega) fun h' eb => ⟨rfl, I.turned (t' := s.toks) (fun b o hb e => eb b o hb e) f0 f1 f3 f4 f5⟩
  self := fun _ _ _ _ _ st h => wpAny_pyIter_listiter st h
theorem ke {P : Program} {w : World} {K : PySem.W.Frag} {tg : Expr} (a it : Addr) : Turn P w K tg (Itt K a) [it] it (fun i h => h.IsTupleIter it a i) where
  mem := by simp
  obj := fun i h st b hb => by
    have e : b = it := by simpa using hb
    subst e
    obtain ⟨o, e, c, d⟩ := st
    exact ⟨o, e, fun v z => by rw [d] at z; cases z⟩
  keep := fun i h h' st k => st.at fun o e => k it (by simp) o e
  item := by
    intro X hP hw hK hc i pins s σ H E I hf st hg
    subst hP hw hK
    obtain ⟨xs, x, hq, hx⟩ := hg
    obtain ⟨its, rv, p, hz⟩ := I.tuple hq
    obtain ⟨u, hu, ru⟩ := rv.get hx
    obtain ⟨f0, f1, f2, f3, f4, f5⟩ := hf it (by simp)
    refine wpAny_pyNext_tuple_item st (show s.heap.IsTuple a its.toArray from p) (x := u) (by simpa using hu) fun h' st' sb => ?_
    have I1 : Inv X pins σ H { s with heap := h' } := I.turned (t' := s.toks) (fun b o hb e => (sb.2 b hb).trans e) f0 f1 f3 f4 f5
    obtain ⟨o, e, c, d⟩ := id st'
    exact ⟨u, rfl, qz (s := { s with heap := h' }) e c d (by decide) ⟨x, H, I1, ru, ⟨rfl, fun ys hy => by rw [I.tuple_inj hy hq]; exact hx⟩, st', fun b hb => (hf b hb).1⟩⟩
  done := by
    intro X hP hw hK hc i pins s σ H E I hf st hg
    subst hP hw hK
    obtain ⟨xs, hq, hx⟩ := hg
    obtain ⟨its, rv, p, hz⟩ := I.tuple hq
    obtain ⟨f0, f1, f2, f3, f4, f5⟩ := hf it (by simp)
    have hl := rv.length
    exact wpAny_pyNext_tuple_end (I.ok.hd hc) st (show s.heap.IsTuple a its.toArray from p) (by simp; omega) fun h' eb => ⟨rfl, I.turned (t' := s.toks) (fun b o hb e => eb b o hb e) f0 f1 f3 f4 f5⟩
  self := fun _ _ _ _ _ st h => wpAny_pyIter_tupleiter st h
theorem kf {P : Program} {w : World} {K : PySem.W.Frag} {tg : Expr} (it : Addr) (lo : Int) (n : Nat) : Turn P w K tg (Itr lo n) [it] it (fun i h => IsRangeIter h it (lo + (i : Nat) * 1) ((n : Int) - (i : Nat)) 1) where
  mem := by simp
  obj := fun i h st b hb => by
    have e : b = it := by simpa using hb
    subst e
    exact ⟨_, st, fun v z => by
      have z' : Data.fields _ = Data.cell v := z
      cases z'⟩
  keep := fun i h h' st k => k it (by simp) _ st
  item := by
    intro X hP hw hK hc i pins s σ H E I hf st hg
    subst hP hw hK
    obtain ⟨f0, f1, f2, f3, f4, f5⟩ := hf it (by simp)
    have W := Walks.range (prog := X.prog) (w := X.w) (I.ok.hd hc) it lo 1 n
    refine W.item i s _ _ hg st fun v h' tk hv st' kk => ?_
    obtain ⟨t, rfl⟩ := hv
    have I1 : Inv X pins σ H { s with heap := h', toks := tk } := I.turned (fun b o hb e => kk b o (by simpa using hb) e) f0 f1 f3 f4 f5
    refine ⟨_, rfl, qz (s := { s with heap := h', toks := tk }) (n := "range_iterator") st' rfl rfl (by decide) ⟨.int (lo + i), H, I1, ⟨t, ?_⟩, ⟨rfl, rfl⟩, st', fun b hb => (hf b hb).1⟩⟩
    rw [Int.mul_one]
  done := by
    intro X hP hw hK hc i pins s σ H E I hf st hg
    subst hP hw hK
    obtain ⟨f0, f1, f2, f3, f4, f5⟩ := hf it (by simp)
    exact wpAny_pyNext_range_end (I.ok.hd hc) st (by have : n ≤ i := hg; omega) fun h' eb => ⟨rfl, I.turned (t' := s.toks) (fun b o hb e => eb b o hb e) f0 f1 f3 f4 f5⟩
  self := fun _ _ _ _ _ st h => wpAny_pyIter_rangeiter st h
end L2
namespace L2
open PySem PySem.Spec PyProof.Rows
section
variable {X : Cx} {tg : Expr}
noncomputable def kh (K : PySem.W.Frag) (tl : TE) : TI := fun σ H R => tl σ H fun x H1 => ∃ a, x = .ref a ∧ (∃ xs, SqL K H1 a xs) ∧ R (Itl K a) H1
noncomputable def Z9 (K : PySem.W.Frag) (tl : TE) : TI := fun σ H R => tl σ H fun x H1 => ∃ a, x = .ref a ∧ (∃ xs, SqT K H1 a xs) ∧ R (Itt K a) H1
theorem Ve {l : Expr} {tl : TE} (hl : PE X l tl) : PI X tg l (kh X.K tl) := by
  intro pins s σ H R I h
  refine thn (hl pins s σ H _ I h) fun v s1 ⟨x, H1, I1, r1, q1⟩ => ?_
  obtain ⟨a, e, ⟨xs, hq⟩, q⟩ := q1
  subst e
  cases r1
  obtain ⟨its, rv, p, hz⟩ := I1.list hq
  refine wpAny_pyIter_list p.isList ?_
  refine ⟨s1.heap.objs.size, [s1.heap.objs.size], _, _, H1, rfl, I1.kept (t' := s1.toks) fun b o e => Heap.get?_push_of_some _ e, Zd a _, ⟨_, Heap.get?_push_size _ rfl, rfl, rfl⟩, fun b hb => ?_, q⟩
  have e : b = s1.heap.objs.size := by simpa using hb
  subst e
  exact I1.fpOk (Nat.le_refl _) (I1.hok.fresh (Nat.le_refl _))
theorem UC {l : Expr} {tl : TE} (hl : PE X l tl) : PI X tg l (Z9 X.K tl) := by
  intro pins s σ H R I h
  refine thn (hl pins s σ H _ I h) fun v s1 ⟨x, H1, I1, r1, q1⟩ => ?_
  obtain ⟨a, e, ⟨xs, hq⟩, q⟩ := q1
  subst e
  cases r1
  obtain ⟨its, rv, p, hz⟩ := I1.tuple hq
  refine wpAny_pyIter_tuple (show s1.heap.IsTuple a its.toArray from p) ?_
  refine ⟨s1.heap.objs.size, [s1.heap.objs.size], _, _, H1, rfl, I1.kept (t' := s1.toks) fun b o e => Heap.get?_push_of_some _ e, ke a _, ⟨_, Heap.get?_push_size _ rfl, rfl, rfl⟩, fun b hb => ?_, q⟩
  have e : b = s1.heap.objs.size := by simpa using hb
  subst e
  exact I1.fpOk (Nat.le_refl _) (I1.hok.fresh (Nat.le_refl _))
theorem Ya {pins : List (Addr × Obj)} {σ : St} {H : Hp} {s : Shared} {R : It → Hp → Prop} {E : Value → Shared → Prop} {lo hi : Int} {t u v : Tok} {tk : Nat} (I : Inv X pins σ H s) (h1 : -(2 ^ 62) ≤ lo) (h2 : lo < 2 ^ 62) (h3 : -(2 ^ 62) ≤ hi) (h4 : hi < 2 ^ 62)
    (q : R (Itr lo (hi - lo).toNat) H) : wpAny (model X.prog X.w) X.A (pyIter (.ref s.heap.objs.size)) (PIE X pins σ tg R) E { s with heap := s.heap.push { cls := .type "range", data := .fields #[.int lo t, .int hi u, .int 1 v] }, toks := tk } := by
  refine wpAny_pyIter_range (IsRange.new ..) (small_one h1 h2 h3 h4) ?_
  have I1 : Inv X pins σ H { s with heap := s.heap.push { cls := .type "range", data := .fields #[.int lo t, .int hi u, .int 1 v] }, toks := tk } := I.kept fun b o e => Heap.get?_push_of_some _ e
  refine ⟨(s.heap.push { cls := .type "range", data := .fields #[.int lo t, .int hi u, .int 1 v] }).objs.size, [(s.heap.push { cls := .type "range", data := .fields #[.int lo t, .int hi u, .int 1 v] }).objs.size], _, _, H, rfl,
    I1.kept (t' := tk) fun b o e => Heap.get?_push_of_some _ e, kf _ lo (hi - lo).toNat, ?_, fun b hb => ?_, q⟩
  · have e1 : lo + ((0 : Nat) : Int) * 1 = lo := by simp
    have e2 : (((hi - lo).toNat : Nat) : Int) - ((0 : Nat) : Int) = Builtin.Range.rangeSize lo hi 1 := by rw [rangeSize_one]; split <;> omega
    show IsRangeIter _ _ (lo + ((0 : Nat) : Int) * 1) ((((hi - lo).toNat : Nat) : Int) - ((0 : Nat) : Int)) 1
    rw [e1, e2]
    exact Heap.get?_push_size _ rfl
  · have e : b = (s.heap.push { cls := .type "range", data := .fields #[.int lo t, .int hi u, .int 1 v] }).objs.size := by simpa using hb
    subst e
    exact I1.fpOk (Nat.le_refl _) (I1.hok.fresh (Nat.le_refl _))
noncomputable def Xv (ta : TA) : TI := fun σ H R => ta σ H fun vs H1 => ∃ j : Int, vs = [.int j] ∧ -(2 ^ 62) ≤ j ∧ j < 2 ^ 62 ∧ R (Itr 0 j.toNat) H1
theorem u6 {a : Expr} {ta : TA} {p pos : Pos} (hg : Gl X "range") (hm : X.mg "range" = none) (ha : PA X [a] ta) (hs : starEach [a] X.env = [(false, eval a X.env)] := by rfl) : PI X tg (.Call (.Name "range" p) [a] [] pos) (Xv ta) := by
  intro pins s σ H R I h
  refine Call_ (x5 I hg hm boot_range (PyProof.Rows.callWith_type1 (thn (ha pos pins s σ H _ I h) fun us s1 ⟨vs, H1, I1, r1, q1⟩ => ?_) hs rfl))
  obtain ⟨j, e, q1, q2, q⟩ := q1
  subst e
  cases r1 with
  | cons r rr =>
    cases rr
    obtain ⟨t, rfl⟩ := r
    exact call_range_1 (Ya I1 (by omega) (by omega) q1 q2 (by simpa using q))
noncomputable def UD (wi : TI) (g : TG) (tb : TS) : TS := fun D σ H => wi σ H fun J H1 => ∃ W : Nat → Nat → St → Hp → Prop, (∃ m, W 0 m σ H1) ∧ ∀ i m σ H, W i m σ H →
  (J.stop i H ∧ D.nx σ H) ∨ (J.go i H ∧ ∃ N : St → Hp → Prop, (∀ σ' H', N σ' H' → ∃ m', m' < m ∧ W (i + 1) m' σ' H') ∧ ∀ x H', J.yld i H x H' → g x σ H' fun σ2 H2 => tb { D with nx := N, ct := N, bk := D.nx } σ2 H2)
noncomputable def x8 (fp : List Addr) (h : Heap) : List (Addr × Obj) := fp.filterMap fun b => (h.get? b).map fun o => (b, o)
theorem yY {fp : List Addr} {h : Heap} {b : Addr} {o : Obj} (hb : b ∈ fp) (e : h.get? b = some o) : (b, o) ∈ x8 fp h := List.mem_filterMap.mpr ⟨b, hb, by rw [e]; rfl⟩
theorem Ze {fp : List Addr} {h : Heap} {p : Addr × Obj} (hp : p ∈ x8 fp h) : p.1 ∈ fp ∧ h.get? p.1 = some p.2 := by
  obtain ⟨b, hb, e⟩ := List.mem_filterMap.mp hp
  cases q : h.get? b with
  | none => rw [q] at e; cases e
  | some o =>
    rw [q] at e
    have e' : (b, o) = p := Option.some.inj e
    subst e'
    exact ⟨hb, q⟩
theorem Inv.pinned {pins : List (Addr × Obj)} {σ : St} {H : Hp} {s : Shared} {fp : List Addr} (I : Inv X pins σ H s) (hf : ∀ b ∈ fp, FpOk X pins H b) (ho : ∀ b ∈ fp, ∃ o, s.heap.get? b = some o ∧ ∀ v, o.data ≠ .cell v) : Inv X (pins ++ x8 fp s.heap) σ H s :=
  I.pins_of fun p hp => (List.mem_append.mp hp).elim (fun z => I.pin p (List.mem_append_right _ z)) fun z => by
    obtain ⟨hb, e⟩ := Ze z
    obtain ⟨f0, f1, f2, _⟩ := hf p.1 hb
    obtain ⟨o, e', d⟩ := ho p.1 hb
    rw [e] at e'; cases e'
    exact ⟨e, f0, f1, f2, d⟩
theorem Inv.unpinned {pins pl : List (Addr × Obj)} {σ : St} {H : Hp} {s : Shared} (I : Inv X (pins ++ pl) σ H s) : Inv X pins σ H s := I.pins_of fun p hp => I.pin p (List.mem_append_right _ (List.mem_append_left _ hp))
theorem x9 {iter : Expr} {body : List Stmt} {wi : TI} {g : TG} {tb : TS} {pos : Pos} (hp : PassesOwn (model X.prog X.w) X.A X.env X.xe) (hc : X.calm = true) (hi : PI X tg iter wi) (hg : PG X tg g) (hb : PSs X body tb)
    (hs : ∀ x, foldedSetIterable iter X.env x = pure x := by intro _; rfl) : PS X (.For tg iter body [] pos) (UD wi g tb) := by
  intro pins s σ H D I h
  refine wpAny_For (thn (hi pins s σ H _ I h) fun v s1 h1 => thn h1 fun itv s2 h2 => ?_) hs
  obtain ⟨it, fp, tn, J, H2, e, I2, T, st2, f2, W, ⟨m0, w0⟩, turn⟩ := h2
  subst e
  have stat : ∀ {H' : Hp}, (∀ b ∈ fp, H' b = none) → ∀ b ∈ fp, FpOk X pins H' b := fun hn b hb => ⟨hn b hb, (f2 b hb).2⟩
  refine codeAny_forLoop_any (fun n s' => ∃ i σ' H', Inv X pins σ' H' s' ∧ tn i s'.heap ∧ (∀ b ∈ fp, H' b = none) ∧ W i n σ' H') ?_ m0 ⟨0, σ, H2, I2, st2, fun b hb => (f2 b hb).1, w0⟩
  rintro n s3 ⟨i, σ3, H3, I3, st3, fr3, w3⟩
  rcases turn i n σ3 H3 w3 with ⟨stop, qn⟩ | ⟨go, N, hN, step⟩
  · refine wpAny_passesOwn hp (thn (T.done X rfl rfl rfl hc i pins s3 σ3 H3 X.xe I3 (stat fr3) st3 stop) fun r s4 ⟨hr, I4⟩ => ?_)
    subst hr
    exact wpAny_execs_nil ⟨σ3, H3, I4, qn⟩
  · refine wpAny_passesOwn hp (thn (T.item X rfl rfl rfl hc i pins s3 σ3 H3 X.xe I3 (stat fr3) st3 go) fun r s4 ⟨u, hr, h4⟩ => ?_)
    subst hr
    refine wpAny_passesOwn hp (thn h4 fun _ s5 ⟨x, H5, I5, r5, y5, st5, fr5⟩ => ?_)
    have I5' := I5.pinned (stat fr5) (T.obj _ _ st5)
    refine wpAny_passesOwn hp (thn (hg _ s5 σ3 H5 x u _ I5' r5 (step x H5 y5)) fun _ s6 ⟨σ6, H6, I6, q6⟩ => ?_)
    refine wpAny_passesOwn hp (thn (hb _ s6 σ6 H6 _ I6 q6) fun f s7 q7 => ?_)
    have again : ∀ {σ7 : St} {H7 : Hp}, Inv X (pins ++ x8 fp s5.heap) σ7 H7 s7 → N σ7 H7 → ∃ m, m < n ∧ ∃ i σ' H', Inv X pins σ' H' s7 ∧ tn i s7.heap ∧ (∀ b ∈ fp, H' b = none) ∧ W i m σ' H' := fun {σ7 H7} I7 n7 => by
      obtain ⟨m', hm, w7⟩ := hN σ7 H7 n7
      refine ⟨m', hm, i + 1, σ7, H7, I7.unpinned, T.keep _ _ _ st5 fun b hb o e => (I7.pin (b, o) (List.mem_append_right _ (List.mem_append_right _ (yY hb e)))).1, fun b hb => ?_, w7⟩
      obtain ⟨o, e, d⟩ := T.obj _ _ st5 b hb
      exact (I7.pin (b, o) (List.mem_append_right _ (List.mem_append_right _ (yY hb e)))).2.1
    cases f with
    | next => obtain ⟨σ7, H7, I7, n7⟩ := q7; exact again I7 n7
    | cont => obtain ⟨σ7, H7, I7, n7⟩ := q7; exact again I7 n7
    | brk => obtain ⟨σ7, H7, I7, q7⟩ := q7; exact ⟨σ7, H7, I7.unpinned, q7⟩
    | ret v => obtain ⟨x7, σ7, H7, I7, r7, q7⟩ := q7; exact ⟨x7, σ7, H7, I7.unpinned, r7, q7⟩
end
theorem Yb {K : PySem.W.Frag} {a : Addr} {xs : List V} {g : TG} {tb : TS} {D : Ends} {σ : St} {H : Hp} (Pv : Nat → St → Hp → Prop) (h0 : Pv 0 σ H) (hl : ∀ i σ H, i ≤ xs.length → Pv i σ H → SqL K H a xs)
    (hs : ∀ i x σ H, xs[i]? = some x → Pv i σ H → g x σ H fun σ2 H2 => tb { D with nx := Pv (i + 1), ct := Pv (i + 1), bk := D.nx } σ2 H2) (hd : ∀ σ H, Pv xs.length σ H → D.nx σ H) :
    ∃ W : Nat → Nat → St → Hp → Prop, (∃ m, W 0 m σ H) ∧ ∀ i m σ H, W i m σ H →
      ((Itl K a).stop i H ∧ D.nx σ H) ∨ ((Itl K a).go i H ∧ ∃ N : St → Hp → Prop, (∀ σ' H', N σ' H' → ∃ m', m' < m ∧ W (i + 1) m' σ' H') ∧ ∀ x H', (Itl K a).yld i H x H' → g x σ H' fun σ2 H2 => tb { D with nx := N, ct := N, bk := D.nx } σ2 H2) := by
  refine ⟨fun i m σ H => m = xs.length - i ∧ i ≤ xs.length ∧ Pv i σ H, ⟨xs.length, by simp, Nat.zero_le _, h0⟩, ?_⟩
  rintro i m σ H ⟨rfl, hi, p⟩
  have q := hl i σ H hi p
  by_cases hlt : i < xs.length
  · refine .inr ⟨⟨xs, xs[i], q, by simp [hlt]⟩, Pv (i + 1), fun σ' H' p' => ⟨xs.length - (i + 1), by omega, rfl, hlt, p'⟩, fun x H' y => ?_⟩
    obtain ⟨e, y⟩ := y
    subst e
    exact hs i x σ _ (y xs q) p
  · have e : i = xs.length := by omega
    subst e
    exact .inl ⟨⟨xs, q, Nat.le_refl _⟩, hd σ H p⟩
theorem Vf {K : PySem.W.Frag} {a : Addr} {xs : List V} {g : TG} {tb : TS} {D : Ends} {σ : St} {H : Hp} (Pv : Nat → St → Hp → Prop) (h0 : Pv 0 σ H) (hl : ∀ i σ H, i ≤ xs.length → Pv i σ H → SqT K H a xs)
    (hs : ∀ i x σ H, xs[i]? = some x → Pv i σ H → g x σ H fun σ2 H2 => tb { D with nx := Pv (i + 1), ct := Pv (i + 1), bk := D.nx } σ2 H2) (hd : ∀ σ H, Pv xs.length σ H → D.nx σ H) :
    ∃ W : Nat → Nat → St → Hp → Prop, (∃ m, W 0 m σ H) ∧ ∀ i m σ H, W i m σ H →
      ((Itt K a).stop i H ∧ D.nx σ H) ∨ ((Itt K a).go i H ∧ ∃ N : St → Hp → Prop, (∀ σ' H', N σ' H' → ∃ m', m' < m ∧ W (i + 1) m' σ' H') ∧ ∀ x H', (Itt K a).yld i H x H' → g x σ H' fun σ2 H2 => tb { D with nx := N, ct := N, bk := D.nx } σ2 H2) := by
  refine ⟨fun i m σ H => m = xs.length - i ∧ i ≤ xs.length ∧ Pv i σ H, ⟨xs.length, by simp, Nat.zero_le _, h0⟩, ?_⟩
  rintro i m σ H ⟨rfl, hi, p⟩
  have q := hl i σ H hi p
  by_cases hlt : i < xs.length
  · refine .inr ⟨⟨xs, xs[i], q, by simp [hlt]⟩, Pv (i + 1), fun σ' H' p' => ⟨xs.length - (i + 1), by omega, rfl, hlt, p'⟩, fun x H' y => ?_⟩
    obtain ⟨e, y⟩ := y
    subst e
    exact hs i x σ _ (y xs q) p
  · have e : i = xs.length := by omega
    subst e
    exact .inl ⟨⟨xs, q, Nat.le_refl _⟩, hd σ H p⟩
theorem Zf {lo : Int} {n : Nat} {g : TG} {tb : TS} {D : Ends} {σ : St} {H : Hp} (Pv : Nat → St → Hp → Prop) (h0 : Pv 0 σ H)
    (hs : ∀ i σ H, i < n → Pv i σ H → g (.int (lo + i)) σ H fun σ2 H2 => tb { D with nx := Pv (i + 1), ct := Pv (i + 1), bk := D.nx } σ2 H2) (hd : ∀ σ H, Pv n σ H → D.nx σ H) :
    ∃ W : Nat → Nat → St → Hp → Prop, (∃ m, W 0 m σ H) ∧ ∀ i m σ H, W i m σ H →
      ((Itr lo n).stop i H ∧ D.nx σ H) ∨ ((Itr lo n).go i H ∧ ∃ N : St → Hp → Prop, (∀ σ' H', N σ' H' → ∃ m', m' < m ∧ W (i + 1) m' σ' H') ∧ ∀ x H', (Itr lo n).yld i H x H' → g x σ H' fun σ2 H2 => tb { D with nx := N, ct := N, bk := D.nx } σ2 H2) := by
  refine ⟨fun i m σ H => m = n - i ∧ i ≤ n ∧ Pv i σ H, ⟨n, by simp, Nat.zero_le _, h0⟩, ?_⟩
  rintro i m σ H ⟨rfl, hi, p⟩
  by_cases hlt : i < n
  · refine .inr ⟨hlt, Pv (i + 1), fun σ' H' p' => ⟨n - (i + 1), by omega, rfl, hlt, p'⟩, fun x H' y => ?_⟩
    obtain ⟨e, y⟩ := y
    subst e y
    exact hs i σ _ hlt p
  · have e : i = n := by omega
    subst e
    exact .inl ⟨Nat.le_refl _, hd σ H p⟩
end L2
namespace L2
open PySem PySem.Spec PyProof.Rows
noncomputable abbrev R2 := V → V → Hp → VK → Prop
noncomputable def OpR (X : Cx) (f : Value → Value → Sem Value) (r : R2) : Prop :=
  ∀ (pins : List (Addr × Obj)) (s : Shared) (σ : St) (H : Hp) (x y : V) (v u : Value) (Q : VK), Inv X pins σ H s → RelV x v → RelV y u → r x y H Q →
    wpAny (model X.prog X.w) X.A (f v u) (EP X pins σ Q) X.xe s
noncomputable def zP (X : Cx) (f : Value) (r : List V → Hp → VK → Prop) : Prop :=
  ∀ (pins : List (Addr × Obj)) (s : Shared) (σ : St) (H : Hp) (xs : List V) (us : List Value) (Q : VK), Inv X pins σ H s → Vals xs us → r xs H Q →
    wpAny (model X.prog X.w) X.A (call f us) (EP X pins σ Q) X.xe s
noncomputable def Jt (X : Cx) (r : V → Hp → (Bool → Hp → Prop) → Prop) : Prop :=
  ∀ (pins : List (Addr × Obj)) (s : Shared) (σ : St) (H : Hp) (x : V) (v : Value) (Q : Bool → Hp → Prop), Inv X pins σ H s → RelV x v → r x H Q →
    wpAny (model X.prog X.w) X.A (truthy v) (TP X pins σ Q) X.xe s
noncomputable def tOp (r : R2) (ta tb : TE) : TE := fun σ H Q => ta σ H fun x H1 => tb σ H1 fun y H2 => r x y H2 Q
noncomputable def rI (C : Int → Int → Prop) (g : Int → Int → V) : R2 := fun x y H Q => ∃ i j, x = .int i ∧ y = .int j ∧ C i j ∧ Q (g i j) H
noncomputable def rI0 (g : Int → Int → V) : R2 := fun x y H Q => ∃ i j, x = .int i ∧ y = .int j ∧ Q (g i j) H
section
variable {X : Cx} {a b c : Expr} {ta tb tc : TE} {pos : Pos}
theorem Yc (ha : PE X a ta) (hb : PE X b tb) {pins : List (Addr × Obj)} {s : Shared} {σ : St} {H : Hp} {R : V → V → Hp → Prop} (I : Inv X pins σ H s)
    (h : ta σ H fun x H1 => tb σ H1 fun y H2 => R x y H2) {Q : Value → Shared → Prop} {f : Value → Value → Sem Value}
    (hf : ∀ v u s2 x y H2, Inv X pins σ H2 s2 → RelV x v → RelV y u → R x y H2 → wpAny (model X.prog X.w) X.A (f v u) Q X.xe s2) :
    wpAny (model X.prog X.w) X.A (eval a X.env) (fun v s₁ => wpAny (model X.prog X.w) X.A (eval b X.env) (fun u s₂ => wpAny (model X.prog X.w) X.A (f v u) Q X.xe s₂) X.xe s₁) X.xe s := by
  refine thn (ha pins s σ H _ I h) fun v s1 ⟨x, H1, I1, r1, q1⟩ => ?_
  refine thn (hb pins s1 σ H1 _ I1 q1) fun u s2 ⟨y, H2, I2, r2, q2⟩ => ?_
  exact hf v u s2 x y H2 I2 r1 r2 q2
theorem zk {op : Operator} {r : R2} (ho : OpR X (binaryOp op) r) (ha : PE X a ta) (hb : PE X b tb) : PE X (.BinOp a op b pos) (tOp r ta tb) := by
  intro pins s σ H Q I h
  exact wpAny_BinOp (Yc ha hb I h fun v u s2 x y H2 I2 rx ry q => ho pins s2 σ H2 x y v u Q I2 rx ry q)
theorem opI {f : Value → Value → Sem Value} {C : Int → Int → Prop} {g : Int → Int → Int}
    (rule : ∀ (i j : Int) (t u : Tok) (s : Shared) (Q : Value → Shared → Prop) (E : Value → Shared → Prop), C i j → Q (.int (g i j) s.toks) { s with toks := s.toks + 1 } → wpAny (model X.prog X.w) X.A (f (.int i t) (.int j u)) Q E s) :
    OpR X f (rI C fun i j => .int (g i j)) := by
  intro pins s σ H x y v u Q I rx ry h
  obtain ⟨i, j, rfl, rfl, hc, q⟩ := h
  obtain ⟨t, rfl⟩ := rx
  obtain ⟨t', rfl⟩ := ry
  exact rule i j t t' s _ _ hc ⟨.int (g i j), H, I.tok _, ⟨_, rfl⟩, q⟩
theorem UE {f : Value → Value → Sem Value} {g : Int → Int → Int}
    (rule : ∀ (i j : Int) (t u : Tok) (s : Shared) (Q : Value → Shared → Prop) (E : Value → Shared → Prop), Q (.int (g i j) s.toks) { s with toks := s.toks + 1 } → wpAny (model X.prog X.w) X.A (f (.int i t) (.int j u)) Q E s) :
    OpR X f (rI0 fun i j => .int (g i j)) := by
  intro pins s σ H x y v u Q I rx ry h
  obtain ⟨i, j, rfl, rfl, q⟩ := h
  obtain ⟨t, rfl⟩ := rx
  obtain ⟨t', rfl⟩ := ry
  exact rule i j t t' s _ _ ⟨.int (g i j), H, I.tok _, ⟨_, rfl⟩, q⟩
theorem UF {f : Value → Value → Sem Value} {g : Int → Int → Bool}
    (rule : ∀ (i j : Int) (t u : Tok) (s : Shared) (Q : Value → Shared → Prop) (E : Value → Shared → Prop), Q (.bool (g i j)) s → wpAny (model X.prog X.w) X.A (f (.int i t) (.int j u)) Q E s) :
    OpR X f (rI0 fun i j => .bl (g i j)) := by
  intro pins s σ H x y v u Q I rx ry h
  obtain ⟨i, j, rfl, rfl, q⟩ := h
  obtain ⟨t, rfl⟩ := rx
  obtain ⟨t', rfl⟩ := ry
  exact rule i j t t' s _ _ ⟨.bl (g i j), H, I, rfl, q⟩
noncomputable def Ju (i j : Int) : Prop := 0 < j ∧ j < 1073741824
noncomputable def uG (i j : Int) : Prop := (-(2 ^ 64) < i ∧ i < 2 ^ 64) ∨ (-(2 ^ 64) < j ∧ j < 2 ^ 64)
theorem uG.ok {i j : Int} (h : uG i j) : IntMulOk i j := by
  rcases h with ⟨h1, h2⟩ | ⟨h1, h2⟩
  · exact .of_left (intBits_le_64 h1 h2)
  · exact .of_right (intBits_le_64 h1 h2)
theorem yr : OpR X (binaryOp .Add) (rI0 fun i j => .int (i + j)) := UE fun _ _ _ _ _ _ _ q => add_int q
theorem UG : OpR X (binaryOp .Sub) (rI0 fun i j => .int (i - j)) := UE fun _ _ _ _ _ _ _ q => sub_int q
theorem yx : OpR X (binaryOp .FloorDiv) (rI Ju fun i j => .int (i / j)) := opI fun i j _ _ _ _ _ hc q => by
  have h1 : (0 : Int) < j := hc.1
  have h2 : j < 1073741824 := hc.2
  exact floordiv_int (by omega) (by rw [Int.fdiv_eq_ediv_of_nonneg i (by omega)]; exact q) (.inl (PyProof.noPylong_small (by omega)))
theorem yt : OpR X (binaryOp .Mod) (rI (fun _ j => 0 < j) fun i j => .int (i % j)) := opI fun i j _ _ _ _ _ hc q => by
  have h1 : (0 : Int) < j := hc
  exact mod_int' (by omega) (by rw [Int.fmod_eq_emod_of_nonneg i (by omega)]; exact q)
end
noncomputable def vT : V → V → Bool
  | .non, .non => true | .non, .int _ => true | .int _, .non => true | .non, .bl _ => true | .bl _, .non => true | .non, .str _ => true | .str _, .non => true
  | .int _, .int _ => true | .bl _, .bl _ => true | .str _, .str _ => true | .byt _, .byt _ => true
  | .int _, .str _ => true | .str _, .int _ => true | .bl _, .str _ => true | .str _, .bl _ => true
  | _, _ => false
noncomputable def rEq : R2 := fun x y H Q => vT x y = true ∧ Q (.bl (decide (x = y))) H
noncomputable def rNe : R2 := fun x y H Q => vT x y = true ∧ Q (.bl (!decide (x = y))) H
theorem jJ {i j : Int} : decide (V.int i = V.int j) = (i == j) := by
  rw [Bool.eq_iff_iff]
  simp
theorem Zg {i j : Bool} : decide (V.bl i = V.bl j) = (i == j) := by
  rw [Bool.eq_iff_iff]
  simp
theorem jK {i j : Str} : decide (V.str i = V.str j) = (i == j) := by
  rw [Bool.eq_iff_iff]
  simp
theorem jL {i j : Array UInt8} : decide (V.byt i = V.byt j) = (i.toList == j.toList) := by
  rw [Bool.eq_iff_iff]
  cases i
  cases j
  simp
section
variable {X : Cx} {a b c : Expr} {ta tb tc : TE} {pos : Pos}
theorem zo {pins : List (Addr × Obj)} {σ : St} {H : Hp} {s : Shared} {Q : VK} {k k' : Bool} (I : Inv X pins σ H s) (q : Q (.bl k) H) (e : k = k') : EP X pins σ Q (.bool k') s := by
  subst e
  exact ⟨.bl k, H, I, rfl, q⟩
theorem yu : OpR X (compareOp .Eq) rEq := by
  intro pins s σ H x y v u Q I rx ry h
  obtain ⟨hs, q⟩ := h
  cases x with
  | non =>
    cases rx
    cases y with
    | non => cases ry; exact PySem.EqNone.eq_none_none (zo I q (by simp))
    | bl j => cases ry; exact PySem.EqNone.eq_none_bool (zo I q (by simp))
    | int j => obtain ⟨t', rfl⟩ := ry; exact PySem.EqNone.eq_none_int (zo I q (by simp))
    | str j => obtain ⟨t', rfl⟩ := ry; exact PySem.EqNone.eq_none_str (zo I q (by simp))
    | _ => exact absurd (show false = true from hs) Bool.false_ne_true
  | bl i =>
    cases rx
    cases y with
    | non => cases ry; exact PySem.EqNone.eq_bool_none (zo I q (by simp))
    | bl j => cases ry; exact eq_bool (zo I q Zg)
    | str j => obtain ⟨t', rfl⟩ := ry; exact PySem.EqMixed.eq_bool_str (zo I q (by simp))
    | _ => exact absurd (show false = true from hs) Bool.false_ne_true
  | int i =>
    obtain ⟨t, rfl⟩ := rx
    cases y with
    | non => cases ry; exact PySem.EqNone.eq_int_none (zo I q (by simp))
    | int j => obtain ⟨t', rfl⟩ := ry; exact eq_int (zo I q jJ)
    | str j => obtain ⟨t', rfl⟩ := ry; exact PySem.EqMixed.eq_int_str (zo I q (by simp))
    | _ => exact absurd (show false = true from hs) Bool.false_ne_true
  | str i =>
    obtain ⟨t, rfl⟩ := rx
    cases y with
    | non => cases ry; exact PySem.EqNone.eq_str_none (zo I q (by simp))
    | bl j => cases ry; exact PySem.EqMixed.eq_str_bool (zo I q (by simp))
    | int j => obtain ⟨t', rfl⟩ := ry; exact PySem.EqMixed.eq_str_int (zo I q (by simp))
    | str j => obtain ⟨t', rfl⟩ := ry; exact eq_str (zo I q jK)
    | _ => exact absurd (show false = true from hs) Bool.false_ne_true
  | byt i =>
    obtain ⟨t, rfl⟩ := rx
    cases y with
    | byt j => obtain ⟨t', rfl⟩ := ry; exact PySem.W.eq_bytes (zo I q jL)
    | _ => exact absurd (show false = true from hs) Bool.false_ne_true
  | _ => cases y <;> exact absurd (show false = true from hs) Bool.false_ne_true
theorem xu : OpR X (compareOp .NotEq) rNe := by
  intro pins s σ H x y v u Q I rx ry h
  obtain ⟨hs, q⟩ := h
  cases x with
  | non =>
    cases rx
    cases y with
    | non => cases ry; exact PySem.EqNone.ne_none_none (zo I q (by simp))
    | bl j => cases ry; exact PySem.EqNone.ne_none_bool (zo I q (by simp))
    | int j => obtain ⟨t', rfl⟩ := ry; exact PySem.EqNone.ne_none_int (zo I q (by simp))
    | str j => obtain ⟨t', rfl⟩ := ry; exact PySem.EqNone.ne_none_str (zo I q (by simp))
    | _ => exact absurd (show false = true from hs) Bool.false_ne_true
  | bl i =>
    cases rx
    cases y with
    | non => cases ry; exact PySem.EqNone.ne_bool_none (zo I q (by simp))
    | bl j => cases ry; exact ne_bool (zo I q (congrArg not Zg))
    | str j => obtain ⟨t', rfl⟩ := ry; exact PySem.EqMixed.ne_bool_str (zo I q (by simp))
    | _ => exact absurd (show false = true from hs) Bool.false_ne_true
  | int i =>
    obtain ⟨t, rfl⟩ := rx
    cases y with
    | non => cases ry; exact PySem.EqNone.ne_int_none (zo I q (by simp))
    | int j => obtain ⟨t', rfl⟩ := ry; exact ne_int (zo I q (congrArg not jJ))
    | str j => obtain ⟨t', rfl⟩ := ry; exact PySem.EqMixed.ne_int_str (zo I q (by simp))
    | _ => exact absurd (show false = true from hs) Bool.false_ne_true
  | str i =>
    obtain ⟨t, rfl⟩ := rx
    cases y with
    | non => cases ry; exact PySem.EqNone.ne_str_none (zo I q (by simp))
    | bl j => cases ry; exact PySem.EqMixed.ne_str_bool (zo I q (by simp))
    | int j => obtain ⟨t', rfl⟩ := ry; exact PySem.EqMixed.ne_str_int (zo I q (by simp))
    | str j => obtain ⟨t', rfl⟩ := ry; exact ne_str (zo I q (congrArg not jK))
    | _ => exact absurd (show false = true from hs) Bool.false_ne_true
  | byt i =>
    obtain ⟨t, rfl⟩ := rx
    cases y with
    | byt j => obtain ⟨t', rfl⟩ := ry; exact PySem.W.ne_bytes (zo I q (congrArg not jL))
    | _ => exact absurd (show false = true from hs) Bool.false_ne_true
  | _ => cases y <;> exact absurd (show false = true from hs) Bool.false_ne_true
theorem qA : OpR X (compareOp .Lt) (rI0 fun i j => .bl (decide (i < j))) := UF fun _ _ _ _ _ _ _ q => lt_int q
theorem ki : OpR X (compareOp .Gt) (rI0 fun i j => .bl (decide (j < i))) := UF fun _ _ _ _ _ _ _ q => gt_int q
theorem u7 : OpR X (compareOp .In) (fun x y H Q => ∃ i j, x = .str i ∧ y = .str j ∧ Q (.bl (!(Builtin.Str.occurrences j i 0 j.length 1).isEmpty)) H) := by
  intro pins s σ H x y v u Q I rx ry h
  obtain ⟨i, j, rfl, rfl, q⟩ := h
  obtain ⟨t, rfl⟩ := rx
  obtain ⟨t', rfl⟩ := ry
  exact in_str (zo I q rfl)
theorem UH : OpR X (compareOp .Is) (fun x y H Q => y = .non ∧ Q (.bl (decide (x = .non))) H) := by
  intro pins s σ H x y v u Q I rx ry h
  obtain ⟨rfl, q⟩ := h
  cases ry
  refine is_none_gen (zo I q ?_)
  cases x <;> first
    | (cases rx; rfl)
    | (obtain ⟨t, rfl⟩ := rx; rfl)
theorem Vg : OpR X (compareOp .IsNot) (fun x y H Q => y = .non ∧ Q (.bl (!decide (x = .non))) H) := by
  intro pins s σ H x y v u Q I rx ry h
  obtain ⟨rfl, q⟩ := h
  cases ry
  refine isnot_none_gen (zo I q ?_)
  cases x <;> first
    | (cases rx; rfl)
    | (obtain ⟨t, rfl⟩ := rx; rfl)
theorem OpR.or {f : Value → Value → Sem Value} {r r' : R2} (h : OpR X f r) (h' : OpR X f r') : OpR X f (fun x y H Q => r x y H Q ∨ r' x y H Q) := by
  intro pins s σ H x y v u Q I rx ry q
  rcases q with q | q
  · exact h pins s σ H x y v u Q I rx ry q
  · exact h' pins s σ H x y v u Q I rx ry q
theorem zp (b : Expr) {op : CmpOp} (h : op ≠ .In := by decide) (h2 : op ≠ .NotIn := by decide) : behindInMarks op b = false := by
  have e1 : (op == CmpOp.In) = false := by cases op <;> first | rfl | exact absurd rfl h
  have e2 : (op == CmpOp.NotIn) = false := by cases op <;> first | rfl | exact absurd rfl h2
  cases b <;> simp [behindInMarks, e1, e2]
theorem xH {op : CmpOp} {r : R2} (ho : OpR X (compareOp op) r) (ha : PE X a ta) (hb : PE X b tb) (hm : behindInMarks op b = false) : PE X (.Compare a [op] [b] pos) (tOp r ta tb) := by
  intro pins s σ H Q I h
  exact wpAny_Compare1 (Yc ha hb I h fun v u s2 x y H2 I2 rx ry q => ho pins s2 σ H2 x y v u Q I2 rx ry q) hm
noncomputable def Xw (t : TE) : TT := fun σ H Q => t σ H fun x H' => ∃ k, x = .bl k ∧ Q k H'
theorem zl {op : CmpOp} {r : R2} (ho : OpR X (compareOp op) r) (ha : PE X a ta) (hb : PE X b tb) (hm : behindInMarks op b = false) : PT X (.Compare a [op] [b] pos) (Xw (tOp r ta tb)) := by
  intro pins s σ H Q I h
  refine wpAny_isTrue_Compare1 (thn (ha pins s σ H _ I h) fun v s1 ⟨x, H1, I1, r1, q1⟩ => thn (hb pins s1 σ H1 _ I1 q1) fun u s2 ⟨y, H2, I2, r2, q2⟩ =>
    thn (ho pins s2 σ H2 x y v u _ I2 r1 r2 q2) fun c s3 ⟨z, H3, I3, r3, k, e, q3⟩ => ?_) hm
  subst e
  cases r3
  exact wpAny_truthy_bool ⟨H3, I3, q3⟩
noncomputable def Zh (r r' : R2) (ta tb tc : TE) : TE := fun σ H Q => ta σ H fun x H1 => tb σ H1 fun y H2 => r x y H2 fun z H3 => ∃ k, z = .bl k ∧
  (if k = true then tc σ H3 fun w' H4 => r' y w' H4 Q else Q (.bl false) H3)
theorem vV {op op' : CmpOp} {r r' : R2} (ho : OpR X (compareOp op) r) (ho' : OpR X (compareOp op') r') (ha : PE X a ta) (hb : PE X b tb) (hc : PE X c tc)
    (hm : lastMarks [op, op'] [b, c] = false := by with_unfolding_all rfl) : PE X (.Compare a [op, op'] [b, c] pos) (Zh r r' ta tb tc) := by
  intro pins s σ H Q I h
  refine Compare_chain (thn (ha pins s σ H _ I h) fun v s1 ⟨x, H1, I1, r1, q1⟩ => chain_link (thn (hb pins s1 σ H1 _ I1 q1) fun u s2 ⟨y, H2, I2, r2, q2⟩ =>
    thn (ho pins s2 σ H2 x y v u _ I2 r1 r2 q2) fun d s3 ⟨z, H3, I3, r3, k, e, q3⟩ => ?_)) hm
  subst e
  cases r3
  refine wpAny_truthy_bool ?_
  cases k with
  | false => exact ite_ff ⟨.bl false, H3, I3, rfl, q3⟩
  | true => exact ite_tt (chain_last (thn (hc pins s3 σ H3 _ I3 q3) fun w' s4 ⟨z', H4, I4, r4, q4⟩ => ho' pins s4 σ H4 y z' u w' Q I4 r2 r4 q4))
noncomputable def uH (K : PySem.W.Frag) (x : V) (H : Hp) (k : Bool) : Prop :=
  match x with
  | .non => k = false
  | .bl b => k = b
  | .int i => k = (i != 0)
  | .str y => y.length ≤ sizeLine ∧ k = ((y.length : Int) != 0)
  | .byt y => y.size ≤ sizeLine ∧ k = ((y.size : Int) != 0)
  | .ref p => (∃ xs, SqL K H p xs ∧ k = !xs.isEmpty) ∨ (∃ xs, SqT K H p xs ∧ k = !xs.isEmpty) ∨ ∃ kvs, H p = some (.dK kvs) ∧ k = !kvs.isEmpty
  | _ => False
theorem kj {κ : Type} {kvs : List (κ × V)} {vs : List (κ × Value)} (r : KV kvs vs) : (!vs.isEmpty) = !kvs.isEmpty := by
  cases r <;> rfl
theorem ub {xs : List V} {its : List Value} (r : Vals xs its) : (!its.toArray.isEmpty) = !xs.isEmpty := by
  cases r <;> simp
theorem xI : (sizeLine : Nat) < 2 ^ 63 := by rw [sizeLine_eq]; decide
theorem Zi : Jt X (fun x H Q => ∃ k, uH X.K x H k ∧ Q k H) := by
  intro pins s σ H x v Q I rx h
  obtain ⟨k, e, q⟩ := h
  have hl := xI
  have hs : sizeLine = 16777216 := sizeLine_eq
  cases x with
  | non =>
    cases rx
    have e' : k = false := e
    subst e'
    exact truthy_none ⟨H, I, q⟩
  | bl b =>
    cases rx
    have e' : k = b := e
    subst e'
    exact wpAny_truthy_bool ⟨H, I, q⟩
  | int i =>
    obtain ⟨t, rfl⟩ := rx
    have e' : k = (i != 0) := e
    subst e'
    exact PySem.P.truthy_int ⟨H, I, q⟩
  | str y =>
    obtain ⟨t, rfl⟩ := rx
    obtain ⟨hy, e'⟩ : y.length ≤ sizeLine ∧ k = ((y.length : Int) != 0) := e
    subst e'
    exact PySem.P.truthy_str (by omega) ⟨H, I.tok _, q⟩
  | byt y =>
    obtain ⟨t, rfl⟩ := rx
    obtain ⟨hy, e'⟩ : y.size ≤ sizeLine ∧ k = ((y.size : Int) != 0) := e
    subst e'
    exact PySem.W.truthy_bytes (by omega) ⟨H, I.tok _, q⟩
  | ref p =>
    cases rx
    have e' : (∃ xs, SqL X.K H p xs ∧ k = !xs.isEmpty) ∨ (∃ xs, SqT X.K H p xs ∧ k = !xs.isEmpty) ∨ ∃ kvs, H p = some (.dK kvs) ∧ k = !kvs.isEmpty := e
    rcases e' with ⟨xs, hx, e'⟩ | ⟨xs, hx, e'⟩ | ⟨kvs, hx, e'⟩
    · subst e'
      obtain ⟨its, r, pl, hz⟩ := I.list hx
      have hlen := r.length
      exact wpAny_truthy_list pl.isList (by simp only [List.size_toArray]; omega) ⟨H, I.tok _, by rw [ub r]; exact q⟩
    · subst e'
      obtain ⟨its, r, pl, hz⟩ := I.tuple hx
      have hlen := r.length
      exact truthy_tuple pl (by simp only [List.size_toArray]; omega) ⟨H, I.tok _, by rw [ub r]; exact q⟩
    · subst e'
      obtain ⟨hz, hS, vs, r, m⟩ : kvs.length ≤ sizeLine ∧ (p == sysModules) = false ∧ ∃ vs, KV kvs vs ∧ s.heap.DictOf (uD X.prog X.w) p vs := I.hok p _ hx
      have hlen : kvs.length = vs.length := Paired.length r
      exact wpAny_truthy_dict hS m (by omega) ⟨H, I.tok _, by rw [kj r]; exact q⟩
  | _ => exact (show False from e).elim
theorem Yd (ha : PE X a ta) (he : ∀ whole, isTrue a X.env whole = (do let v ← whole; standAt a.pos; holding [v] (truthy v))) :
    PT X a (fun σ H Q => ta σ H fun x H' => ∃ k, uH X.K x H' k ∧ Q k H') := by
  intro pins s σ H Q I h
  exact isTrue_plain (thn (ha pins s σ H _ I h) fun v s1 ⟨x, H1, I1, r1, q1⟩ => Zi pins s1 σ H1 x v Q I1 r1 q1) (he _)
theorem zA : OpR X (binaryOp .Add) (fun x y H Q => ∃ i j, x = .str i ∧ y = .str j ∧ i.length + j.length ≤ sizeLine ∧ Q (.str (i ++ j)) H) := by
  intro pins s σ H x y v u Q I rx ry h
  obtain ⟨i, j, rfl, rfl, hz, q⟩ := h
  obtain ⟨t, rfl⟩ := rx
  obtain ⟨t', rfl⟩ := ry
  exact add_str (fun t' tk => ⟨.str (i ++ j), H, I.tok _, ⟨_, rfl⟩, q⟩) hz
theorem xv {x : V} {us : List Value} (r : Vals [x] us) : ∃ u, us = [u] ∧ RelV x u := by
  cases r with
  | cons r1 r2 => cases r2; exact ⟨_, rfl, r1⟩
theorem Zj : zP X (.type "int") (fun xs H Q => (∃ i, xs = [.int i] ∧ Q (.int i) H) ∨ ∃ k, xs = [.bl k] ∧ Q (.int (if k then 1 else 0)) H) := by
  intro pins s σ H xs us Q I r h
  rcases h with ⟨i, rfl, q⟩ | ⟨k, rfl, q⟩
  · obtain ⟨u, rfl, t, rfl⟩ := xv r
    exact call_int_int ⟨.int i, H, I, ⟨_, rfl⟩, q⟩
  · obtain ⟨u, rfl, r1⟩ := xv r
    cases r1
    exact call_int_bool ⟨.int (if k then 1 else 0), H, I.tok _, ⟨_, rfl⟩, q⟩
end
end L2
namespace L2
open PySem PySem.Spec PyProof.Rows
structure ObjM (h : Heap) (x dx C : Addr) (mA : Str → Option Value) : Prop where
  obj : h.get? x = some (PySem.W.instObj C dx)
  ns : h.Ns1 dx mA
  ne : dx ≠ x
theorem Zk {h : Heap} {dx : Addr} {mA : Str → Option Value} (n : h.Ns1 dx mA) : ∃ od, h.get? dx = some od ∧ ∀ name, PySem.W.lookIn name od = some (mA name) := by
  obtain ⟨o, es, ep, ho, hd, hk, _, hm⟩ := n
  refine ⟨o, ho, fun name => ?_⟩
  have e := hm name
  unfold nsFind findBy at e
  rw [← Array.find?_toList] at e
  unfold PySem.W.lookIn
  rw [hd]
  dsimp only
  split
  · rename_i y q
    rw [q] at e
    exact congrArg some e
  · rename_i q
    rw [q] at e
    have a : es.toList.any (·.refKey) = false := by
      rw [List.any_eq_false]
      intro y hy
      obtain ⟨z, t, hkey⟩ := hk y (Array.mem_toList_iff.mp hy)
      simp [DictEntry.refKey, hkey]
    have a' : ¬ es.toList.any (·.refKey) = true := by rw [a]; exact Bool.false_ne_true
    rw [if_neg a']
    exact congrArg some e
theorem ObjM.look {h : Heap} {x dx C : Addr} {mA : Str → Option Value} (I : ObjM h x dx C mA) : ∃ od, PySem.W.InstAt h x (PySem.W.instObj C dx) C (some od) ∧ ∀ name, PySem.W.lookIn name od = some (mA name) :=
  let ⟨od, ho, hl⟩ := Zk I.ns
  ⟨od, ⟨I.obj, rfl, rfl, ho⟩, hl⟩
section
variable {prog : Program} {w : World} {A : Around} {E : Value → Shared → Prop} {s : Shared} {K : PySem.W.Frag} {x dx C f : Addr} {mA : Str → Option Value} {name : Str} {v : Value}
theorem Vh {expr : Bool} {Q : Value → Shared → Prop} (X : K.In s.heap) (I : ObjM s.heap x dx C mA) (hg : PySem.W.plainGet K C name = true) (hh : PySem.W.hasDictIn K C = true)
    (ha : PySem.W.findIn K (.ref C) name = some none) (hv : mA name = some v) (hv' : PySem.W.handedIn v = true) (h : Q v { s with toks := s.toks + 1 }) :
    wpAny (model prog w) A (getAttr (.ref x) name expr) Q E s := by
  obtain ⟨od, J, hl⟩ := I.look
  exact PySem.W.get_value X J (PySem.W.plainGet_of hg).1 (PySem.W.findObj_own hh ha rfl (by rw [hl, hv])) hv' h
theorem Ye {pl : Sem Bool} {Q : Value × List Value → Shared → Prop} (X : K.In s.heap) (I : ObjM s.heap x dx C mA) (hg : PySem.W.plainGet K C name = true)
    (hf : PySem.W.findIn K (.ref C) name = some (some (.ref f))) (ht : PySem.W.isFn K (.ref f) = true) (hv : mA name = none) (h : Q (.ref f, [.ref x]) s) :
    wpAny (model prog w) A (getMethod (.ref x) name pl) Q E s := by
  obtain ⟨od, J, hl⟩ := I.look
  exact PySem.W.method_fn X J (PySem.W.plainGet_of hg).1 (PySem.W.plainGet_of hg).2 hf (beq_iff_eq.mp ht) (by show (PySem.W.lookIn name od).map (·.isSome) = some false; rw [hl, hv]; rfl) h
theorem Vi {ns : List Str} {Q : Unit → Shared → Prop} (X : K.In s.heap) (I : ObjM s.heap x dx C mA)
    (hs : PySem.W.findIn K (.ref C) "__setattr__" = some (some (.builtin "object.__setattr__"))) (hp : PySem.W.plainOver K C = true) (ht : PySem.W.takerIn K C name = some none) (hh : PySem.W.hasDictIn K C = true)
    (hw : PySem.Within mA ns) (hsz : ns.length ≤ sizeLine)
    (h : ∀ h', ObjM h' x dx C (fun y => if y = name then some v else mA y) → Heap.SameBut dx s.heap h' → Q () { s with heap := h', toks := s.toks + 2 }) :
    wpAny (model prog w) A (setAttr (.ref x) name v) Q E s := by
  obtain ⟨od, J, hl⟩ := I.look
  refine PySem.W.set_plain X J hs (PySem.W.osa_open (s := { s with toks := s.toks + 1 }) (r := none) X J hp ht fun b => ?_)
  obtain ⟨cd, hc, hd'⟩ := PySem.W.any_some hh
  have hx : s.heap.get? x = some ⟨.ref C, some dx, .plain, #[]⟩ := I.obj
  refine wpAny_bind (wpAny_pure (wpAny_bind (wpAny_bind (wpAny_loadPart hx (wpAny_bind (PySem.W.Looks.here (s := { s with toks := s.toks + 1 }) (PySem.W.looks_clsIn X hc) ?_))))))
  rw [hd']
  refine wpAny_pure (a := some dx) (wpAny_bind (wpAny_pure (wpAny_bind ?_)))
  refine wpAny_nsSet1 (s := { s with toks := s.toks + 1 }) I.ns fun h' hn2 hs2 => ?_
  obtain ⟨oD, esD, epD, hoD, hdD, hcD⟩ := hn2.count (PySem.Within.cons name v hw)
  refine wpAny_bind (wpAny_lookBehind hoD (by rw [hdD]; exact pastItsLine_dict (Nat.le_trans hcD (by rw [List.length_cons]; omega))) ?_)
  exact wpAny_pure (h _ ⟨(hs2.2 _ (Ne.symm I.ne)).trans I.obj, hn2, I.ne⟩ hs2)
theorem Yf {R : Result → Shared → Prop} {vs : List Value} {kw : List (Str × Value)} (X : K.In s.heap) (hm : PySem.W.makesIn K C = true)
    (hi : PySem.W.findIn K (.ref C) "__init__" = some (some (.ref f))) (hf : PySem.W.typeIn K (.ref f) = some (.type "function"))
    (h : codeAny (model prog w) (A.under (.builtin "type.__call__" ⟨.ref C :: vs, kw⟩)) (.call (.ref f) ⟨.ref (s.heap.objs.size + 1) :: vs, kw⟩) (PySem.W.InitBack (s.heap.objs.size + 1) R)
      { s with heap := (s.heap.push PySem.W.emptyDict).push (PySem.W.instObj C s.heap.objs.size) }) :
    codeAny (model prog w) A (.call (.ref C) ⟨vs, kw⟩) R s := by
  obtain ⟨hh, g, d, t, os⟩ := s
  exact PySem.W.make_core (PySem.W.makes_of X hm) (PySem.W.looks_findIn X hi) (fun self => PySem.W.bind_fn X self hf) (.inl rfl) h
end
noncomputable def yg (f : Str) (v : V) : List (Str × V) → List (Str × V)
  | [] => [(f, v)]
  | (g, x) :: r => if g = f then (g, v) :: r else (g, x) :: yg f v r
theorem vR (f g : Str) (v : V) : ∀ fs : List (Str × V), (yg f v fs).lookup g = if g = f then some v else fs.lookup g
  | [] => by
    show List.lookup g [(f, v)] = _
    by_cases h : g = f
    · have hb : (g == f) = true := beq_iff_eq.mpr h
      simp only [List.lookup, hb, if_pos h]
    · have hb : (g == f) = false := beq_eq_false_iff_ne.mpr h
      simp only [List.lookup, hb, if_neg h]
  | (k, x) :: r => by
    have ih := vR f g v r
    rw [show yg f v ((k, x) :: r) = (if k = f then (k, v) :: r else (k, x) :: yg f v r) from rfl]
    by_cases hk : k = f
    · rw [if_pos hk]
      by_cases h : g = k
      · have hb : (g == k) = true := beq_iff_eq.mpr h
        simp only [List.lookup, hb, if_pos (h.trans hk)]
      · have hb : (g == k) = false := beq_eq_false_iff_ne.mpr h
        simp only [List.lookup, hb, if_neg (fun e : g = f => h (e.trans hk.symm))]
    · rw [if_neg hk]
      by_cases h : g = k
      · have hb : (g == k) = true := beq_iff_eq.mpr h
        simp only [List.lookup, hb, if_neg (fun e : g = f => hk (h.symm.trans e))]
      · have hb : (g == k) = false := beq_eq_false_iff_ne.mpr h
        simp only [List.lookup, hb]
        exact ih
theorem va (f : Str) (v : V) : ∀ fs : List (Str × V), f ∈ (yg f v fs).map (·.1) ∧ ∀ g, g ∈ fs.map (·.1) → g ∈ (yg f v fs).map (·.1)
  | [] => ⟨by simp [yg], fun g h => by simp at h⟩
  | (k, x) :: r => by
    obtain ⟨i1, i2⟩ := va f v r
    rw [show yg f v ((k, x) :: r) = (if k = f then (k, v) :: r else (k, x) :: yg f v r) from rfl]
    by_cases hk : k = f
    · rw [if_pos hk]
      subst hk
      exact ⟨by simp, fun g h => by simpa using h⟩
    · rw [if_neg hk]
      refine ⟨?_, fun g h => ?_⟩
      · rw [List.map_cons]
        exact List.mem_cons_of_mem _ i1
      · rw [List.map_cons] at h ⊢
        rcases List.mem_cons.mp h with e | e
        · exact List.mem_cons.mpr (.inl e)
        · exact List.mem_cons_of_mem _ (i2 g e)
theorem vS (f : Str) (v : V) : ∀ fs : List (Str × V), (yg f v fs).length ≤ fs.length + 1
  | [] => by simp [yg]
  | (k, x) :: r => by
    have ih := vS f v r
    rw [show yg f v ((k, x) :: r) = (if k = f then (k, v) :: r else (k, x) :: yg f v r) from rfl]
    by_cases hk : k = f
    · rw [if_pos hk, List.length_cons, List.length_cons]; omega
    · rw [if_neg hk, List.length_cons, List.length_cons]; omega
theorem yo.some_of {v : V} {o : Option Value} (r : yo (some v) o) : ∃ u, o = some u ∧ RelV v u := by
  cases o with
  | none => exact (show False from r).elim
  | some u => exact ⟨u, rfl, r⟩
theorem yo.none_of {o : Option Value} (r : yo none o) : o = none := by
  cases o with
  | none => rfl
  | some u => exact (show False from r).elim
theorem Zl {v : V} {u : Value} (r : RelV v u) : PySem.W.handedIn u = true := by
  cases v with
  | non => cases (show u = Value.none from r); rfl
  | bl b => cases (show u = Value.bool b from r); rfl
  | int i => obtain ⟨t, e⟩ := (show ∃ t, u = Value.int i t from r); cases e; rfl
  | str x => obtain ⟨t, e⟩ := (show ∃ t, u = Value.str x t from r); cases e; rfl
  | byt b => obtain ⟨t, e⟩ := (show ∃ t, u = Value.bytes b t from r); cases e; rfl
  | flt b => obtain ⟨t, e⟩ := (show ∃ t, u = Value.float b t from r); cases e; rfl
  | ref a => cases (show u = Value.ref a from r); rfl
  | ty n => cases (show u = Value.type n from r); rfl
section
variable {P : Program} {w : World} {H H' : Hp} {h h' : Heap} {a C dx : Addr} {fs fs' : List (Str × V)}
theorem vA (hok : HOk P w H h) (e : H a = some (.ins C dx fs)) : ∃ mA, ObjM h a dx C mA ∧ (∀ f, yo (fs.lookup f) (mA f)) ∧ PySem.Within mA (fs.map (·.1)) ∧ fs.length ≤ 1000 ∧ H dx = some (.own a) := by
  obtain ⟨d, z, ne, ob, mA, n, r, q⟩ := (show zN P w H h a (.ins C dx fs) from hok a _ e)
  exact ⟨mA, ⟨ob, n, ne⟩, r, q, z, d⟩
end
structure Cls (K : PySem.W.Frag) (C : Addr) : Prop where
  pg : PySem.W.plainGet K C Str.empty = true
  hd : PySem.W.hasDictIn K C = true
  po : PySem.W.plainOver K C = true
  sa : PySem.W.findIn K (.ref C) "__setattr__" = some (some (.builtin "object.__setattr__"))
theorem Cls.get {K : PySem.W.Frag} {C : Addr} (c : Cls K C) (f : Str) : PySem.W.plainGet K C f = true := c.pg
noncomputable def NoAttr (K : PySem.W.Frag) (C : Addr) (f : Str) : Prop := PySem.W.findIn K (.ref C) f = some none
theorem NoAttr.taker {K : PySem.W.Frag} {C : Addr} {f : Str} (n : NoAttr K C f) : PySem.W.takerIn K C f = some none := by
  unfold PySem.W.takerIn
  rw [show PySem.W.findIn K (.ref C) f = some none from n]
  rfl
structure Meth (K : PySem.W.Frag) (C : Addr) (m : Str) (f : Addr) : Prop where
  at_ : PySem.W.findIn K (.ref C) m = some (some (.ref f))
  fn : PySem.W.isFn K (.ref f) = true
  kp : PySem.W.keepIn K (.ref f) = true
section
variable {X : Cx} {pins : List (Addr × Obj)} {σ : St} {H : Hp} {s : Shared} {a C dx : Addr} {fs : List (Str × V)} {f : Str} {v : V} {A : Around} {E : Value → Shared → Prop}
theorem kl {b : Bool} {Q : Value → Shared → Prop} (I : Inv X pins σ H s) (e : H a = some (.ins C dx fs)) (c : Cls X.K C) (n : NoAttr X.K C f) (l : fs.lookup f = some v)
    (h : ∀ u s', Inv X pins σ H s' → RelV v u → Q u s') : wpAny (model X.prog X.w) A (getAttr (.ref a) f b) Q E s := by
  obtain ⟨mA, O, r, _, _, _⟩ := vA I.hok e
  obtain ⟨u, hu, ru⟩ := yo.some_of (v := v) (o := mA f) (by rw [← l]; exact r f)
  exact Vh I.kIn O (c.get f) c.hd n hu (Zl ru) (h u _ (I.tok _) ru)
theorem uc {m : Str} {g : Addr} {pl : Sem Bool} {Q : Value × List Value → Shared → Prop} (I : Inv X pins σ H s) (e : H a = some (.ins C dx fs)) (c : Cls X.K C) (k : Meth X.K C m g) (l : fs.lookup m = none)
    (h : Q (.ref g, [.ref a]) s) : wpAny (model X.prog X.w) A (getMethod (.ref a) m pl) Q E s := by
  obtain ⟨mA, O, r, _, _, _⟩ := vA I.hok e
  have hn : mA m = none := yo.none_of (by rw [← l]; exact r m)
  exact Ye I.kIn O (c.get m) k.at_ k.fn hn h
theorem km {y : V} {u : Value} {Q : Unit → Shared → Prop} (I : Inv X pins σ H s) (e : H a = some (.ins C dx fs)) (c : Cls X.K C) (n : NoAttr X.K C f) (hl : fs.length < 1000) (ry : RelV y u)
    (h : ∀ s', Inv X pins σ (upd H a (.ins C dx (yg f y fs))) s' → Q () s') : wpAny (model X.prog X.w) A (setAttr (.ref a) f u) Q E s := by
  obtain ⟨mA, O, r, wi, _, ho⟩ := vA I.hok e
  have hz : (fs.map (·.1)).length ≤ sizeLine := by rw [List.length_map, sizeLine_eq]; omega
  refine Vi I.kIn O c.sa c.po n.taker c.hd wi hz fun h' O' sb => h _ ?_
  have hd : ∃ o, h'.get? dx = some o := let ⟨o, _, _, e', _⟩ := O'.ns; ⟨o, e'⟩
  refine I.write (x := a) (e := dx) (by rw [e]; exact True.intro) (.inr ho) (fun b q hb z => (sb.2 b hb).trans z) hd ?_
  refine ⟨by rw [za O.ne]; exact ho, ?_, O.ne, O'.obj, _, O'.ns, fun g => ?_, fun g hg => ?_⟩
  · have := vS f y fs; omega
  · show yo ((yg f y fs).lookup g) (if g = f then some u else mA g)
    rw [vR]
    by_cases q : g = f
    · rw [if_pos q, if_pos q]; exact ry
    · rw [if_neg q, if_neg q]; exact r g
  · by_cases q : g = f
    · rw [q]; exact (va f y fs).1
    · refine (va f y fs).2 g (wi g fun z => hg ?_)
      show (if g = f then some u else mA g) = none
      rw [if_neg q]; exact z
theorem Inv.made (I : Inv X pins σ H s) : Inv X pins σ (upd (upd H s.heap.objs.size (.own (s.heap.objs.size + 1))) (s.heap.objs.size + 1) (.ins C s.heap.objs.size []))
    { s with heap := (s.heap.push PySem.W.emptyDict).push (PySem.W.instObj C s.heap.objs.size) } := by
  have e1 : (s.heap.push PySem.W.emptyDict).get? s.heap.objs.size = some PySem.W.emptyDict := Heap.get?_push_size s.heap rfl
  have e2 : ((s.heap.push PySem.W.emptyDict).push (PySem.W.instObj C s.heap.objs.size)).get? (s.heap.objs.size + 1) = some (PySem.W.instObj C s.heap.objs.size) := by
    have := Heap.get?_push_size (s.heap.push PySem.W.emptyDict) (o := PySem.W.instObj C s.heap.objs.size) rfl
    rwa [Heap.size_push] at this
  have e3 : (s.heap.push PySem.W.emptyDict).Ns s.heap.objs.size (fun _ => none) := ⟨PySem.W.emptyDict, #[], _, e1, rfl, (fun e he => absurd he (by simp)), fun _ => rfl⟩
  have I1 := I.laid (a := s.heap.objs.size) (o := .own (s.heap.objs.size + 1)) (h' := s.heap.push PySem.W.emptyDict) (t' := s.toks) (fun b u q => Heap.get?_push_of_some _ q) (Nat.le_refl _) ⟨_, e1⟩
  refine I1.laid (a := s.heap.objs.size + 1) (o := .ins C s.heap.objs.size []) (t' := s.toks) (fun b u q => Heap.get?_push_of_some _ q) (Nat.le_of_eq (Heap.size_push _ _)) ?_
  have ne : s.heap.objs.size ≠ s.heap.objs.size + 1 := Nat.ne_of_lt (Nat.lt_succ_self _)
  refine ⟨by rw [za ne, zh], Nat.zero_le _, ne, e2, fun _ => none, (Heap.Ns1.of_empty e3).at fun o q => Heap.get?_push_of_some _ q, fun _ => True.intro, fun y hy => absurd rfl hy⟩
theorem Vj {prog : Program} {w : World} {env : Env} {e : Expr} {f : Str} {pos : Pos} {s : Shared} {Q : Value → Shared → Prop} (hb : attributeBase e f env (eval e env) = eval e env)
    (h : wpAny (model prog w) A (eval e env) (fun o s₁ => wpAny (model prog w) A (getAttr o f true) Q E s₁) E s) : wpAny (model prog w) A (eval (.Attribute e f pos) env) Q E s :=
  Attribute_any_ h (by rw [arm_eval_Attribute, hb])
end
noncomputable def Yg (K : PySem.W.Frag) (ta : TE) (f : Str) : TE := fun σ H Q => ta σ H fun x H1 => ∃ a C dx fs v, x = .ref a ∧ H1 a = some (.ins C dx fs) ∧ Cls K C ∧ NoAttr K C f ∧ fs.lookup f = some v ∧ Q v H1
noncomputable def Yh (K : PySem.W.Frag) (ta tv : TE) (f : Str) : TS := fun D σ H => tv σ H fun y H1 => ta σ H1 fun x H2 => ∃ a C dx fs, x = .ref a ∧ H2 a = some (.ins C dx fs) ∧ Cls K C ∧ NoAttr K C f ∧ fs.length < 1000 ∧
  D.nx σ (upd H2 a (.ins C dx (yg f y fs)))
section
variable {X : Cx} {o e value : Expr} {f : Str} {pos pos' tpos : Pos} {ta tv : TE}
theorem UI (he : PE X e ta) (hb : attributeBase e f X.env (eval e X.env) = eval e X.env) : PE X (.Attribute e f pos) (Yg X.K ta f) := by
  intro pins s σ H Q I h
  refine Vj hb (thn (he pins s σ H _ I h) fun u s1 ⟨x, H1, I1, rx, a, C, dx, fs, v, ex, ea, c, n, l, q⟩ => ?_)
  subst ex
  obtain rfl : u = Value.ref a := rx
  exact kl I1 ea c n l fun u' s2 I2 ru => ⟨v, H1, I2, ru, q⟩
theorem UJ (ha : PE X o ta) (hv : PE X value tv) (hs : swapsWith value (some (.Attribute o f pos')) pos.line X.env = pure false) : PS X (.Assign [.Attribute o f pos'] value pos) (Yh X.K ta tv f) := by
  intro pins s σ H D I h
  refine plainObj_wpAny_Assign_Attribute (thn (hv pins s σ H _ I h) fun u s1 ⟨y, H1, I1, ry, q⟩ => thn (ha pins s1 σ H1 _ I1 q) fun ov s2 ⟨x, H2, I2, rx, a, C, dx, fs, ex, ea, c, n, l, q2⟩ => ?_) hs
  subst ex
  obtain rfl : ov = Value.ref a := rx
  exact km I2 ea c n l ry fun s3 I3 => ⟨σ, _, I3, q2⟩
end
section
variable {X : Cx} {pins : List (Addr × Obj)} {σ : St} {H : Hp} {s : Shared} {A : Around} {E : Value → Shared → Prop} {Q : Value → Shared → Prop} {c : Value} {b : Bool}
inductive TyOf (K : PySem.W.Frag) (H : Hp) : V → Value → Prop where
  | non : TyOf K H .non (.type "NoneType")
  | bl (x : Bool) : TyOf K H (.bl x) (.type "bool")
  | int (i : Int) : TyOf K H (.int i) (.type "int")
  | str (x : Str) : TyOf K H (.str x) (.type "str")
  | flt (x : UInt64) : TyOf K H (.flt x) (.type "float")
  | lst {a : Addr} {xs : List V} (e : H a = some (.lst xs)) : TyOf K H (.ref a) (.type "list")
  | frz {a : Addr} {o : Obj} {xs : List V} (e : H a = some (.frz o (.lst xs))) : TyOf K H (.ref a) (.type "list")
  | tup {a : Addr} {xs : List V} (e : H a = some (.tup xs)) : TyOf K H (.ref a) (.type "tuple")
  | dK {a : Addr} {kvs : List (Key × V)} (e : H a = some (.dK kvs)) : TyOf K H (.ref a) (.type "dict")
  | dT {a : Addr} {kvs : List (List Key × V)} (e : H a = some (.dT kvs)) : TyOf K H (.ref a) (.type "dict")
  | ins {a C dx : Addr} {fs : List (Str × V)} (e : H a = some (.ins C dx fs)) (cl : Cls K C) (ha : PySem.W.findIn K (.ref C) "__class__" = some (some (.builtin "object.__class__")))
      (hn : PySem.W.specialIn K (.builtin "object.__class__") "__get__" = some (some (.builtin "getset_descriptor.__get__"))) (htk : PySem.W.takesIn K (.builtin "object.__class__") = some true)
      (hm : PySem.W.mroIn K C (.type "object") = some true) : TyOf K H (.ref a) (.ref C)
theorem Zm {x : V} {u t : Value} (I : Inv X pins σ H s) (rx : RelV x u) (ty : TyOf X.K H x t) (e : PySem.W.kitOne X.K t c = some b) (h : ∀ tk, Q (.bool b) { s with toks := tk }) :
    wpAny (model X.prog X.w) A (call (.builtin "isinstance") [u, c]) Q E s := by
  cases ty with
  | non => cases (show u = Value.none from rx); exact PySem.W.kia_one PySem.W.kitx_none I.kIn True.intro e (fun z => nomatch z) h
  | bl y => cases (show u = Value.bool y from rx); exact PySem.W.kia_one PySem.W.kitx_bool I.kIn True.intro e (fun z => nomatch z) h
  | int i => obtain ⟨t, q⟩ := (show ∃ t, u = Value.int i t from rx); cases q; exact PySem.W.kia_one PySem.W.kitx_int I.kIn True.intro e (fun z => nomatch z) h
  | str y => obtain ⟨t, q⟩ := (show ∃ t, u = Value.str y t from rx); cases q; exact PySem.W.kia_one PySem.W.kitx_str I.kIn True.intro e (fun z => nomatch z) h
  | flt y => obtain ⟨t, q⟩ := (show ∃ t, u = Value.float y t from rx); cases q; exact PySem.W.kia_one PySem.W.kitx_float I.kIn True.intro e (fun z => nomatch z) h
  | @lst a xs ea =>
    cases (show u = Value.ref a from rx)
    obtain ⟨_, _, n, _, h1⟩ := (show zN X.prog X.w H s.heap a (.lst xs) from I.hok a _ ea)
    exact PySem.W.kia_one PySem.W.kitx_list I.kIn ⟨_, h1, rfl⟩ e (fun z => nomatch z) h
  | @frz a ob xs ea =>
    cases (show u = Value.ref a from rx)
    obtain ⟨_, _, _, n, _, h1⟩ := (show zN X.prog X.w H s.heap a (.frz ob (.lst xs)) from I.hok a _ ea)
    exact PySem.W.kia_one PySem.W.kitx_list I.kIn ⟨_, h1, rfl⟩ e (fun z => nomatch z) h
  | @tup a xs ea =>
    cases (show u = Value.ref a from rx)
    obtain ⟨_, _, _, p⟩ := (show zN X.prog X.w H s.heap a (.tup xs) from I.hok a _ ea)
    obtain ⟨o, h1, h2, _⟩ := p
    exact PySem.W.kia_one PySem.W.kitx_tuple I.kIn ⟨o, h1, h2⟩ e (fun z => nomatch z) h
  | @dK a kvs ea =>
    cases (show u = Value.ref a from rx)
    obtain ⟨_, _, vs, _, p⟩ := (show zN X.prog X.w H s.heap a (.dK kvs) from I.hok a _ ea)
    obtain ⟨o, es, ep, h1, h2, _⟩ := p
    exact PySem.W.kia_one PySem.W.kitx_dict I.kIn ⟨o, h1, h2.1⟩ e (fun z => nomatch z) h
  | @dT a kvs ea =>
    cases (show u = Value.ref a from rx)
    obtain ⟨_, _, xs, _, o, es, ep, h1, h2, _⟩ := (show zN X.prog X.w H s.heap a (.dT kvs) from I.hok a _ ea)
    exact PySem.W.kia_one PySem.W.kitx_dict I.kIn ⟨o, h1, h2.1⟩ e (fun z => nomatch z) h
  | @ins a C dx fs ea cl ha hn htk hm =>
    cases (show u = Value.ref a from rx)
    obtain ⟨mA, O, _⟩ := vA I.hok ea
    obtain ⟨od, J, _⟩ := O.look
    exact PySem.W.kia_one (PySem.W.kitx_own (cl.get _) cl.hd ha hn htk hm) I.kIn J e (fun z => nomatch z) h
end
end L2
namespace L2
open PySem PySem.Spec PyProof.Rows
structure Room (k : Nat) (A : Around) : Prop where
  hd : A.handled = none
  dp : A.depth + 3 * k + 5 < recursionLimit
  un : A.units + 16 * k + 200 < cLine
  gd : A.guards = some []
theorem Room.mono {j k : Nat} {A : Around} (r : Room k A) (h : j ≤ k) : Room j A := ⟨r.hd, by have := r.dp; omega, by have := r.un; omega, r.gd⟩
theorem Room.deeper {k : Nat} {A : Around} (r : Room (k + 1) A) (env : Env) : Room k (A.deeper env) :=
  ⟨r.hd, by have := r.dp; show A.depth + 1 + 3 * k + 5 < _; omega, by have := r.un; show A.units + 3 + 16 * k + 200 < _; omega, r.gd⟩
theorem Room.in1 {k : Nat} {A : Around} (r : Room (k + 1) A) : Room k A.in1 :=
  ⟨r.hd, by have := r.dp; show A.depth + 3 * k + 5 < _; omega, by have := r.un; show A.units + 1 + 16 * k + 200 < _; omega, r.gd⟩
theorem kn {A : Around} {C : Addr} {us : List Value} {kw : List (Str × Value)} : (A.under (.builtin "type.__call__" ⟨.ref C :: us, kw⟩)).depth = A.depth + 1 := by
  first | rfl | simp [Around.under, Code.weight, Code.isCreation, Code.isGuard, Code.isCaller, Code.frames, Code.isFrame, guardIds]
theorem ko {A : Around} {C : Addr} {us : List Value} {kw : List (Str × Value)} : (A.under (.builtin "type.__call__" ⟨.ref C :: us, kw⟩)).units = A.units + 1 := by
  first | rfl | simp [Around.under, Code.cUnits, Code.frames, Code.isFrame]
theorem jB {A : Around} {C : Addr} {us : List Value} {kw : List (Str × Value)} : (A.under (.builtin "type.__call__" ⟨.ref C :: us, kw⟩)).guards = A.guards := by
  first | rfl | simp [Around.under, Code.guards, Code.isGuard, guardIds, pushGuards]
theorem Room.make {k : Nat} {A : Around} (r : Room (k + 1) A) (C : Addr) (us : List Value) (kw : List (Str × Value)) : Room k (A.under (.builtin "type.__call__" ⟨.ref C :: us, kw⟩)) :=
  ⟨r.hd, by have := r.dp; rw [kn]; omega, by have := r.un; rw [ko]; omega, by rw [jB]; exact r.gd⟩
theorem Room.depth {k : Nat} {A : Around} (r : Room k A) : A.depth < recursionLimit := by have := r.dp; omega
theorem Room.units {k : Nat} {A : Around} (r : Room k A) : A.units + 64 < cLine := by have := r.un; omega
noncomputable def xA : TA := fun _ H Q => Q [] H
noncomputable def yZ (ta : TE) (tr : TA) : TA := fun σ H Q => ta σ H fun x H1 => tr σ H1 fun xs H2 => Q (x :: xs) H2
section
variable {X : Cx} {e : Expr} {es : List Expr} {te : TE} {t : TA} {pos : Pos}
theorem UK : PA X [] xA := fun _ _ _ _ H Q I h => Calls.spliced_nil ⟨[], H, I, .nil, h⟩
theorem Vk (ha : PE X e te) (hr : PA X es t) (hs : starEach (e :: es) X.env = (false, eval e X.env) :: starEach es X.env := by rfl) : PA X (e :: es) (yZ te t) := by
  intro pos pins s σ H Q I h
  rw [hs]
  show wpAny _ _ (spliced ((false, eval e X.env) :: backTo pos (starEach es X.env))) _ _ s
  refine Calls.spliced_cons (thn (ha pins s σ H _ I h) fun u s1 ⟨x, H1, I1, r1, q1⟩ => ?_)
  exact thn (hr pos pins s1 σ H1 _ I1 q1) fun us s2 ⟨xs, H2, I2, r2, q2⟩ => ⟨x :: xs, H2, I2, .cons r1 r2, q2⟩
noncomputable def kq (t : TA) : TE := fun σ H Q => t σ H fun xs H1 => xs.length ≤ sizeLine ∧ ∀ p, H1 p = none → Q (.ref p) (upd H1 p (.tup xs))
noncomputable def qN (t : TA) : TE := fun σ H Q => t σ H fun xs H1 => xs.length ≤ sizeLine ∧ ∀ p, H1 p = none → Q (.ref p) (upd H1 p (.lst xs))
theorem Zn {x1} (h : PA X es t) : PE X (.Tuple es x1 pos) (kq t) := by
  intro pins s σ H Q I hq
  refine wpAny_Tuple_spliced (thn (h pos pins s σ H _ I hq) fun us s1 ⟨xs, H1, I1, r, z, q⟩ => ⟨by rw [← r.length]; exact z, ?_⟩)
  have hf : H1 s1.heap.objs.size = none := I1.hok.fresh (Nat.le_refl _)
  refine ⟨.ref s1.heap.objs.size, upd H1 s1.heap.objs.size (.tup xs), I1.laid (t' := s1.toks) (fun b u e => Heap.get?_push_of_some _ e) (Nat.le_refl _) ?_, rfl, q _ hf⟩
  exact ⟨z, us, r, ⟨_, Heap.get?_push_size _ rfl, rfl, _, rfl⟩⟩
theorem Zo (h : PA X es t) : PE X (.List es pos) (qN t) := by
  intro pins s σ H Q I hq
  refine wpAny_List_spliced (thn (h pos pins s σ H _ I hq) fun us s1 ⟨xs, H1, I1, r, z, q⟩ => ⟨by rw [← r.length]; exact z, ?_⟩)
  have hf : H1 s1.heap.objs.size = none := I1.hok.fresh (Nat.le_refl _)
  refine ⟨.ref s1.heap.objs.size, upd H1 s1.heap.objs.size (.lst xs), I1.laid (t' := s1.toks) (fun b u e => Heap.get?_push_of_some _ e) (Nat.le_refl _) ?_, rfl, q _ hf⟩
  exact ⟨z, us, 0, r, Heap.get?_push_size _ rfl⟩
end
noncomputable abbrev Sp := List V → Hp → VK → XK → Prop
noncomputable abbrev CXT := List Env → Hp → Shared → XK → Value → Shared → Prop
structure Env0 (P : Program) (w : World) (K : PySem.W.Frag) (mg : Str → Option Value) (base : Heap) (A : Around) (outer : List Env) (s : Shared) (H : Hp) : Prop where
  frames : A.frames = some outer
  mod : Mod K mg base
  bs : ∀ b o, base.get? b = some o → s.heap.get? b = some o ∧ H b = none
  bsz : base.objs.size ≤ s.heap.objs.size
  funs : s.heap.FunFrames base outer
  frf : ∀ b ∈ frs outer, H b = none
  hok : HOk P w H s.heap
  bare : AllBare s.gens
noncomputable def CE (outer : List Env) (P : Program) (w : World) (H : Hp) (s : Shared) (Q : VK) (u : Value) (s' : Shared) : Prop :=
  ∃ v H', s'.os = s.os ∧ AllBare s'.gens ∧ Un (frs outer) [] H H' s.heap s'.heap ∧ HOk P w H' s'.heap ∧ RelV v u ∧ Q v H'
noncomputable def CR (CX : CXT) (outer : List Env) (P : Program) (w : World) (H : Hp) (s : Shared) (Q : VK) (E : XK) (r : Result) (s' : Shared) : Prop :=
  match r with
  | .ok (.ret u) => CE outer P w H s Q u s'
  | .ok _ => False
  | .error e => CX outer H s E e s'
structure FnOk (P : Program) (w : World) (K : PySem.W.Frag) (mg : Str → Option Value) (base : Heap) (CX : CXT) (k : Nat) (f : Addr) (fd : FuncData) (ps : List Str) (sp : Sp) : Prop where
  len : ∀ vs H Q E, sp vs H Q E → vs.length = ps.length
  run : ∀ (A : Around) (outer : List Env) (s : Shared) (H : Hp) (args : Args) (us : List Value) (vs : List V) (Q : VK) (E : XK), Room k A → Env0 P w K mg base A outer s H → BindsTo s fd args (ps.zip us) → Vals vs us → sp vs H Q E →
    codeAny (model P w) A (.call (.ref f) args) (CR CX outer P w H s Q E) s
theorem FnOk.mono {P : Program} {w : World} {K : PySem.W.Frag} {mg : Str → Option Value} {base : Heap} {CX : CXT} {j k : Nat} {f : Addr} {fd : FuncData} {ps : List Str} {sp : Sp} (F : FnOk P w K mg base CX j f fd ps sp) (h : j ≤ k) :
    FnOk P w K mg base CX k f fd ps sp := ⟨F.len, fun A outer s H args us vs Q E hr => F.run A outer s H args us vs Q E (hr.mono h)⟩
theorem FnOk.imp {P : Program} {w : World} {K : PySem.W.Frag} {mg : Str → Option Value} {base : Heap} {CX : CXT} {k : Nat} {f : Addr} {fd : FuncData} {ps : List Str} {sp sp' : Sp} (F : FnOk P w K mg base CX k f fd ps sp)
    (h : ∀ vs H Q E, sp' vs H Q E → sp vs H Q E) : FnOk P w K mg base CX k f fd ps sp' :=
  ⟨fun vs H Q E q => F.len vs H Q E (h _ _ _ _ q), fun A outer s H args us vs Q E hr he hb hv hs => F.run A outer s H args us vs Q E hr he hb hv (h _ _ _ _ hs)⟩
theorem Env0.make {P : Program} {w : World} {K : PySem.W.Frag} {mg : Str → Option Value} {base : Heap} {A : Around} {outer : List Env} {s : Shared} {H : Hp} (e : Env0 P w K mg base A outer s H) (C : Addr) (us : List Value) (kw : List (Str × Value)) :
    Env0 P w K mg base (A.under (.builtin "type.__call__" ⟨.ref C :: us, kw⟩)) outer s H := ⟨by first | exact e.frames | (simpa [Around.under, Code.envs, Code.isFrame, pushEnvs] using e.frames), e.mod, e.bs, e.bsz, e.funs, e.frf, e.hok, e.bare⟩
theorem Env0.in1 {P : Program} {w : World} {K : PySem.W.Frag} {mg : Str → Option Value} {base : Heap} {A : Around} {outer : List Env} {s : Shared} {H : Hp} (e : Env0 P w K mg base A outer s H) :
    Env0 P w K mg base A.in1 outer s H := ⟨e.frames, e.mod, e.bs, e.bsz, e.funs, e.frf, e.hok, e.bare⟩
section
variable {X : Cx} {pins : List (Addr × Obj)} {σ : St} {H : Hp} {s s' : Shared}
theorem Inv.env0 (I : Inv X pins σ H s) : Env0 X.prog X.w X.K X.mg X.base X.A X.stack s H :=
  ⟨I.ok.frames, I.ok.mod, I.bs, Nat.le_trans I.ok.bsz I.sz, I.stack, I.stkFree, I.hok, I.bare⟩
theorem Inv.after {Q : VK} {u : Value} (I : Inv X pins σ H s) (h : CE X.stack X.prog X.w H s Q u s') : EP X pins σ Q u s' := by
  obtain ⟨v, H', os, bare, un, hok, r, q⟩ := h
  obtain ⟨hh, g, d, t, os'⟩ := s'
  obtain rfl : os' = s.os := os
  exact ⟨v, H', I.call (h' := hh) (g' := g) (d' := d) (t' := t) (ch := []) un hok bare (fun b z => absurd z (by simp)), r, q⟩
end
noncomputable def qB (sp : Sp) (dvs : List V) (E : XK) (t : TA) : TE := fun σ H Q => t σ H fun vs H1 => sp (vs ++ dvs) H1 Q E
noncomputable def ud (C : Addr) (m : Str) (sp : Sp) (dvs : List V) (E : XK) (ta : TE) (t : TA) : TE := fun σ H Q => ta σ H fun x H1 => ∃ a dx fs, x = .ref a ∧ H1 a = some (.ins C dx fs) ∧ fs.lookup m = none ∧
  t σ H1 fun vs H2 => sp (x :: (vs ++ dvs)) H2 Q E
noncomputable def kt (C : Addr) (sp : Sp) (dvs : List V) (E : XK) (t : TA) : TE := fun σ H Q => t σ H fun vs H1 => ∀ x dx, H1 x = none → H1 dx = none → dx ≠ x →
  sp (.ref x :: (vs ++ dvs)) (upd (upd H1 dx (.own x)) x (.ins C dx [])) (fun v H2 => v = .non ∧ Q (.ref x) H2) E
noncomputable def Binds (K : PySem.W.Frag) (fd : FuncData) (ps : List Str) (ds : List Value) : Prop :=
  ∀ (s : Shared) (us : List Value), K.In s.heap → (us ++ ds).length = ps.length → BindsTo s fd ⟨us, []⟩ (ps.zip (us ++ ds))
theorem Binds.all {K : PySem.W.Frag} {fd : FuncData} {ps : List Str} (h : ∀ us : List Value, us.length = ps.length → bindArgs fd ⟨us, []⟩ = pure (ps.zip us)) : Binds K fd ps [] := fun s us _ hl => by
  rw [List.append_nil] at hl ⊢
  exact .of_eq (h us hl)
noncomputable def yP (CX : CXT) (X : Cx) (E : XK) : Prop := ∀ (pins : List (Addr × Obj)) (σ : St) (H : Hp) (s : Shared) (e : Value) (s' : Shared), Inv X pins σ H s → CX X.stack H s E e s' → X.xe e s'
section
variable {X : Cx} {CX : CXT} {k : Nat} {f C : Addr} {fd : FuncData} {ps : List Str} {sp : Sp} {dvs : List V} {ds : List Value} {E : XK} {x m : Str} {p pos apos : Pos} {e o : Expr} {es : List Expr} {ta : TE} {t : TA}
theorem qO {pins : List (Addr × Obj)} {σ : St} {H : Hp} {s : Shared} {Q : VK} {us : List Value} {vs : List V} (F : FnOk X.prog X.w X.K X.mg X.base CX k f fd ps sp) (hr : Room k X.A) (hb : Binds X.K fd ps ds) (hd : Vals dvs ds) (hx : yP CX X E)
    (I : Inv X pins σ H s) (r : Vals vs us) (h : sp (vs ++ dvs) H Q E) : wpAny (model X.prog X.w) X.A (call (.ref f) us) (EP X pins σ Q) X.xe s := by
  have r2 : Vals (vs ++ dvs) (us ++ ds) := r.append hd
  have hl : (us ++ ds).length = ps.length := by rw [← r2.length]; exact F.len _ _ _ _ h
  refine wpAny_call (codeAny_mono (F.run X.A X.stack s H ⟨us, []⟩ (us ++ ds) (vs ++ dvs) Q E hr I.env0 (hb s us I.kIn hl) r2 h) fun r s' hq => ?_)
  cases r with
  | error e => exact hx pins σ H s e s' I hq
  | ok fl =>
    cases fl with
    | ret u => exact I.after hq
    | next => exact False.elim hq
    | brk => exact False.elim hq
    | cont => exact False.elim hq
theorem Vl (F : FnOk X.prog X.w X.K X.mg X.base CX k f fd ps sp) (hr : Room k X.A) (hg : Gl X x) (hm : X.mg x = some (.ref f)) (hk : PySem.W.keepIn X.K (.ref f) = true) (hb : Binds X.K fd ps ds) (hd : Vals dvs ds) (hx : yP CX X E)
    (ha : PA X (e :: es) t) (hdb : (x == ("__debug__" : Str)) = false := by decide) (he : starEach (e :: es) X.env = (false, eval e X.env) :: starEach es X.env := by rfl) (hpl : (backTo pos (starEach es X.env)).any (·.1) = false := by rfl) :
    PE X (.Call (.Name x p) (e :: es) [] pos) (qB sp dvs E t) := by
  intro pins s σ H Q I h
  refine wpAny_Call_Name_kw (uE I hg hm ?_ hdb)
  refine PySem.W.callWith_K (h₀ := X.base) I.ok.mod.kin hk (thn (ha pos pins s σ H _ I h) fun us s1 ⟨vs, H1, I1, r, q⟩ => ⟨I1.kIn, ?_⟩) he hpl
  exact qO F hr hb hd hx I1 r q
theorem Vm {pl : Sem Bool} (he : PE X o ta) (c : Cls X.K C) (hm : Meth X.K C m f) (F : FnOk X.prog X.w X.K X.mg X.base CX k f fd ps sp) (hr : Room k X.A) (hb : Binds X.K fd ps ds) (hd : Vals dvs ds) (hx : yP CX X E) (ha : PA X (e :: es) t)
    (hst : starEach (e :: es) X.env = (false, eval e X.env) :: starEach es X.env := by rfl) (hpl : (backTo pos (starEach es X.env)).any (·.1) = false := by rfl)
    (ht : eval (.Call (.Attribute o m apos) (e :: es) [] pos) X.env = (do
      let ov ← eval o X.env
      standAt apos.atName
      let (f, first) ← holding [ov] (getMethod ov m pl)
      callWith pos f first (backTo pos (starEach (e :: es) X.env)) (backToKw pos (keywordEach [] X.env))) := by rfl) :
    PE X (.Call (.Attribute o m apos) (e :: es) [] pos) (ud C m sp dvs E ta t) := by
  intro pins s σ H Q I h
  refine PySem.W.methodCall_KW (pl := pl) (thn (he pins s σ H _ I h) fun u s1 ⟨x, H1, I1, rx, a, dx, fs, ex, ea, l, q⟩ => ?_) ht
  subst ex
  obtain rfl : u = Value.ref a := rx
  refine uc I1 ea c hm l ?_
  refine PySem.W.callWith_K (first := [.ref a]) (h₀ := X.base) I.ok.mod.kin hm.kp (thn (ha pos pins s1 σ H1 _ I1 q) fun us s2 ⟨vs, H2, I2, r, q2⟩ => ⟨I2.kIn, ?_⟩) hst hpl
  exact qO (us := .ref a :: us) (vs := .ref a :: vs) F hr hb hd hx I2 (.cons rfl r) q2
theorem Yi {pl : Sem Bool} (he : PE X o ta) (c : Cls X.K C) (hm : Meth X.K C m f) (F : FnOk X.prog X.w X.K X.mg X.base CX k f fd ps sp) (hr : Room k X.A) (hb : Binds X.K fd ps ds) (hd : Vals dvs ds) (hx : yP CX X E)
    (ht : eval (.Call (.Attribute o m apos) [] [] pos) X.env = (do
      let ov ← eval o X.env
      standAt apos.atName
      let (f, first) ← holding [ov] (getMethod ov m pl)
      callWith pos f first (backTo pos (starEach [] X.env)) (backToKw pos (keywordEach [] X.env))) := by rfl) :
    PE X (.Call (.Attribute o m apos) [] [] pos) (ud C m sp dvs E ta xA) := by
  intro pins s σ H Q I h
  refine PySem.W.methodCall_KW (pl := pl) (thn (he pins s σ H _ I h) fun u s1 ⟨x, H1, I1, rx, a, dx, fs, ex, ea, l, q⟩ => ?_) ht
  subst ex
  obtain rfl : u = Value.ref a := rx
  refine uc I1 ea c hm l ?_
  exact PySem.W.callWith_K0 (first := [.ref a]) I1.kIn hm.kp (qO (us := [.ref a]) (vs := [.ref a]) F hr hb hd hx I1 (.cons rfl .nil) q)
structure Mk (K : PySem.W.Frag) (C f : Addr) : Prop where
  makes : PySem.W.makesIn K C = true
  init : PySem.W.findIn K (.ref C) "__init__" = some (some (.ref f))
  fn : PySem.W.isFn K (.ref f) = true
  kp : PySem.W.keepIn K (.ref C) = true
theorem Yj {pins : List (Addr × Obj)} {σ : St} {H : Hp} {s : Shared} {Q : VK} {us : List Value} {vs : List V} (M : Mk X.K C f) (F : FnOk X.prog X.w X.K X.mg X.base CX k f fd ps sp) (hr : Room (k + 1) X.A) (hb : Binds X.K fd ps ds) (hd : Vals dvs ds)
    (hx : yP CX X E) (I : Inv X pins σ H s) (r : Vals vs us)
    (h : ∀ x dx, H x = none → H dx = none → dx ≠ x → sp (.ref x :: (vs ++ dvs)) (upd (upd H dx (.own x)) x (.ins C dx [])) (fun v H2 => v = .non ∧ Q (.ref x) H2) E) :
    wpAny (model X.prog X.w) X.A (call (.ref C) us) (EP X pins σ Q) X.xe s := by
  have hq := h (s.heap.objs.size + 1) s.heap.objs.size (I.hok.fresh (Nat.le_succ _)) (I.hok.fresh (Nat.le_refl _)) (Nat.ne_of_lt (Nat.lt_succ_self _))
  have I2 := Inv.made (C := C) I
  have r2 : Vals (V.ref (s.heap.objs.size + 1) :: (vs ++ dvs)) (Value.ref (s.heap.objs.size + 1) :: (us ++ ds)) := .cons rfl (r.append hd)
  have hl : (Value.ref (s.heap.objs.size + 1) :: us ++ ds).length = ps.length := by
    have e := r2.length
    rw [F.len _ _ _ _ hq] at e
    exact e.symm
  refine wpAny_call (Yf (f := f) I.kIn M.makes M.init (beq_iff_eq.mp M.fn) (codeAny_mono (F.run _ X.stack _ _ ⟨Value.ref (s.heap.objs.size + 1) :: us, []⟩ (Value.ref (s.heap.objs.size + 1) :: (us ++ ds)) _ _ E (hr.make C us [])
    (I2.env0.make C us []) (hb _ (Value.ref (s.heap.objs.size + 1) :: us) I2.kIn hl) r2 hq) fun r s' hq' => ?_))
  cases r with
  | error e => exact hx pins σ _ _ e s' I2 hq'
  | ok fl =>
    cases fl with
    | ret u =>
      obtain ⟨v, H', I3, rv, ev, q3⟩ := I2.after hq'
      subst ev
      exact ⟨rv, ⟨V.ref (s.heap.objs.size + 1), H', I3, rfl, q3⟩⟩
    | next => exact False.elim hq'
    | brk => exact False.elim hq'
    | cont => exact False.elim hq'
theorem Yk (M : Mk X.K C f) (F : FnOk X.prog X.w X.K X.mg X.base CX k f fd ps sp) (hr : Room (k + 1) X.A) (hg : Gl X x) (hm : X.mg x = some (.ref C)) (hb : Binds X.K fd ps ds) (hd : Vals dvs ds) (hx : yP CX X E)
    (hdb : (x == ("__debug__" : Str)) = false := by decide) : PE X (.Call (.Name x p) [] [] pos) (kt C sp dvs E xA) := by
  intro pins s σ H Q I h
  refine wpAny_Call_Name_kw (uE I hg hm ?_ hdb)
  exact PySem.W.callWith_K0 I.kIn M.kp (Yj (us := []) M F hr hb hd hx I .nil h)
end
section
variable {X : Cx} {CX : CXT} {k : Nat} {f C : Addr} {fd : FuncData} {ps ks : List Str} {sp : Sp} {E : XK} {x m : Str} {p pos apos kpos : Pos} {e o : Expr} {es : List Expr} {kws : List Keyword} {te ta : TE} {t tk : TA} {nm : Option Str}
variable {g : List Value → List Value → List Value} {gV : List V → List V → List V}
end
structure FnScope (N P : List Str) (sc : Scope) : Prop where
  kind : sc.kind = .function
  co : sc.isCoroutine = false
  gen : sc.isGenerator = false
  nd : N.Nodup
  pre : N.take P.length = P
  par : ∀ x ∈ P, sc.names.lookup x = some .local ∨ sc.names.lookup x = some .cell
  nofree : ∀ y ∈ sc.names, y.2 ≠ .free
theorem u8 {kindOf : Str → Option NameKind} {x : Str} : ∀ {binds : List (Str × Value)} {m : Str → Option Value}, (∀ v, (x, v) ∉ binds) → bindL kindOf binds m x = m x
  | [], _, _ => rfl
  | (n, v) :: r, m, h => by
    unfold bindL
    rw [u8 fun w hw => h w (List.mem_cons_of_mem _ hw)]
    split
    · have : x ≠ n := by rintro rfl; exact h v List.mem_cons_self
      simp [this]
    · rfl
theorem u9 {kindOf : Str → Option NameKind} {x : Str} : ∀ {binds : List (Str × Value)} {m : Str → Option Value}, (∀ v, (x, v) ∉ binds) → bindC kindOf binds m x = m x
  | [], _, _ => rfl
  | (n, v) :: r, m, h => by
    unfold bindC
    rw [u9 fun w hw => h w (List.mem_cons_of_mem _ hw)]
    split
    · rfl
    · have : x ≠ n := by rintro rfl; exact h v List.mem_cons_self
      simp [this]
theorem qa {kindOf : Str → Option NameKind} {x : Str} {v : Value} : ∀ {P : List Str} {vs : List Value} {i : Nat} {m : Str → Option Value}, P.Nodup → P[i]? = some x → vs[i]? = some v → kindOf x = some .local →
    bindL kindOf (P.zip vs) m x = some v
  | [], _, _, _, _, h, _, _ => by simp at h
  | _ :: _, [], _, _, _, _, h, _ => by simp at h
  | p :: P, w :: vs, 0, m, nd, h1, h2, hk => by
    simp at h1 h2; subst h1; subst h2
    show bindL kindOf ((p, w) :: P.zip vs) m p = _
    unfold bindL
    rw [u8 fun v hv => (List.nodup_cons.mp nd).1 (List.of_mem_zip hv).1, if_pos hk]
    simp
  | p :: P, w :: vs, i + 1, m, nd, h1, h2, hk => by
    show bindL kindOf ((p, w) :: P.zip vs) m x = _
    unfold bindL
    exact qa (i := i) (List.nodup_cons.mp nd).2 (by simpa using h1) (by simpa using h2) hk
theorem qb {kindOf : Str → Option NameKind} {x : Str} {v : Value} : ∀ {P : List Str} {vs : List Value} {i : Nat} {m : Str → Option Value}, P.Nodup → P[i]? = some x → vs[i]? = some v → kindOf x ≠ some .local →
    bindC kindOf (P.zip vs) m x = some v
  | [], _, _, _, _, h, _, _ => by simp at h
  | _ :: _, [], _, _, _, _, h, _ => by simp at h
  | p :: P, w :: vs, 0, m, nd, h1, h2, hk => by
    simp at h1 h2; subst h1; subst h2
    show bindC kindOf ((p, w) :: P.zip vs) m p = _
    unfold bindC
    rw [u9 fun v hv => (List.nodup_cons.mp nd).1 (List.of_mem_zip hv).1, if_neg hk]
    simp
  | p :: P, w :: vs, i + 1, m, nd, h1, h2, hk => by
    show bindC kindOf ((p, w) :: P.zip vs) m x = _
    unfold bindC
    exact qb (i := i) (List.nodup_cons.mp nd).2 (by simpa using h1) (by simpa using h2) hk
noncomputable def start (N : List Str) (vs : List V) : St := vs.map some ++ List.replicate (N.length - vs.length) none
noncomputable def xh (CX : CXT) (P : Program) (w : World) (K : PySem.W.Frag) (mg : Str → Option Value) (base : Heap) (N : List Str) (qual : Str) (scope : Scope) (f : Addr) (cd : Value) (A : Around) (outer : List Env) (s : Shared) (H : Hp) (E : XK) : Cx where
  prog := P
  w := w
  K := K
  mg := mg
  base := base
  A := A.deeper (envOfC qual scope s.heap.objs.size f cd)
  N := N
  s₀ := s
  H₀ := H
  env := envOfC qual scope s.heap.objs.size f cd
  outer := outer
  stack := envOfC qual scope s.heap.objs.size f cd :: outer
  ex := []
  calm := true
  fn := fun _ => true
  pn := []
  xe := fun e s' => wpAny (model P w) (A.deeper (envOfC qual scope s.heap.objs.size f cd)) (leaving (envOfC qual scope s.heap.objs.size f cd) e) (fun _ s'' => CX outer H s E e s'') (fun e' s'' => CX outer H s E e' s'') s'
theorem qP {sc : Scope} {n : Nat} {x : Str} (h : sc.names.lookup x = some .cell) : ∃ c, (cellsFrom n sc.names []).lookup x = some c := by
  have q := PySem.W.cellsFrom_some sc.names n [] (.inl h)
  exact Option.isSome_iff_exists.mp q
theorem Zp {CX : CXT} {P : Program} {w : World} {K : PySem.W.Frag} {mg : Str → Option Value} {base : Heap} {N ps : List Str} {qual : Str} {scope : Scope} {f : Addr} {cd : Value} {A : Around} {outer : List Env} {s s1 : Shared} {H : Hp} {E : XK} {us : List Value} {vs : List V}
    (S : FnScope N ps scope) (hd : A.handled = none) (e0 : Env0 P w K mg base A outer s H) (hl : vs.length = ps.length) (r : Vals vs us)
    (x : InCallC s s.heap.objs.size (bindL (envOfC qual scope s.heap.objs.size f cd).kindOf (ps.zip us) fun _ => none) (cellsFrom (s.heap.objs.size + 1) scope.names []) (bindC (envOfC qual scope s.heap.objs.size f cd).kindOf (ps.zip us) fun _ => none) s1) :
    Inv (xh CX P w K mg base N qual scope f cd A outer s H E) [] (start N vs) H s1 := by
  have hpl : ps.length ≤ N.length := by have := congrArg List.length S.pre; rw [List.length_take] at this; omega
  obtain ⟨h1, tk, rfl, hk⟩ := x.done
  have noA : ∀ b : Addr, b ∉ (xh CX P w K mg base N qual scope f cd A outer s H E).ex := fun b z => absurd (show b ∈ ([] : List Addr) from z) (by simp)
  refine ⟨⟨e0.mod, S.kind, rfl, rfl, Nat.le_refl _, fun y z c h1 h2 => ?_, fun y hy => ?_, fun y c _ h => ?_, fun _ => hd, Around.frames_deeper e0.frames, .inr ⟨rfl, rfl⟩, fun b z => absurd z (noA b), e0.bs, e0.bsz, fun b _ _ => noA b, fun b z => absurd z (noA b), e0.funs, e0.frf⟩,
    rfl, e0.bare, Un.kept hk, ⟨_, x.toInCall.ns, fun i y v h1 h2 h3 => ?_⟩, fun y c h => ⟨_, x.cell y c h⟩, e0.hok.fresh (Nat.le_refl _), fun y c h => ?_, fun p hp => absurd (show p ∈ ([] : List (Addr × Obj)) from hp) (by simp), e0.hok.kept hk, ?_⟩
  · exact name_of_addr x.apart (PySem.mem_of_lookup h1) (PySem.mem_of_lookup h2)
  · have hy : scope.names.lookup y = some .cell ∨ scope.names.lookup y = some .free := hy
    rcases hy with hy | hy
    · exact qP hy
    · exact absurd rfl (S.nofree _ (PySem.mem_of_lookup hy))
  · exact Nat.le_of_lt (x.above y c (PySem.mem_of_lookup h))
  · have hi : i < vs.length := by
      unfold start at h2
      by_cases hi : i < vs.length
      · exact hi
      · rw [List.getElem?_append_right (by simpa using hi)] at h2
        rw [List.getElem?_replicate] at h2
        split at h2 <;> cases h2
    have ha : vs[i]? = some v := by
      unfold start at h2
      rw [List.getElem?_append_left (by simpa using hi), List.getElem?_map] at h2
      cases e : vs[i]? with
      | none => rw [e] at h2; cases h2
      | some a => rw [e] at h2; cases h2; rfl
    obtain ⟨u, hu, rv⟩ := r.get ha
    have hp : ps[i]? = some y := by
      rw [← S.pre, List.getElem?_take_of_lt (by omega)]; exact h1
    have ndP : ps.Nodup := by rw [← S.pre]; exact S.nd.sublist (List.take_sublist _ _)
    refine ⟨u, rv, ?_⟩
    rcases S.par y (List.mem_of_getElem? hp) with k | k
    · exact .inl ⟨k, qa ndP hp hu k⟩
    · obtain ⟨c, e⟩ := qP (n := s.heap.objs.size + 1) k
      refine .inr ⟨.inl k, c, e, ?_⟩
      have q := x.cell y c e
      rw [qb ndP hp hu (by show scope.names.lookup y ≠ _; rw [k]; decide)] at q
      exact q
  · exact e0.hok.fresh (Nat.le_of_lt (x.above y c (PySem.mem_of_lookup h)))
  · unfold start
    show _ = N.length
    rw [List.length_append, List.length_map, List.length_replicate]
    omega
theorem Xx {CX : CXT} {P : Program} {w : World} {K : PySem.W.Frag} {mg : Str → Option Value} {base : Heap} {k : Nat} {f : Addr} {name qual : Str} {params : Arguments} {body : List Stmt} {scope : Scope} {dV kV doc pm cdv ct oc : Value} {an od : Option Addr}
    {osl : Array (Option Value)} {N ps : List Str} {sp : Sp} (lk : K.lookup f = some ⟨oc, od, .func (PySem.W.fnOf name qual params body scope dV kV doc pm an cdv ct), osl⟩) (hcd : PySem.W.codeIn K cdv qual = true) (S : FnScope N ps scope)
    (len : ∀ vs H Q E, sp vs H Q E → vs.length = ps.length)
    (hbody : ∀ (A : Around) (outer : List Env) (s : Shared) (H : Hp) (vs : List V) (Q : VK) (E : XK), Room k (A.deeper (envOfC qual scope s.heap.objs.size f cdv)) → sp vs H Q E →
      ∃ t, PSs (xh CX P w K mg base N qual scope f cdv A outer s H E) body t ∧ t { nx := fun _ H' => Q .non H', rt := Q } (start N vs) H) :
    FnOk P w K mg base CX (k + 1) f (PySem.W.fnOf name qual params body scope dV kV doc pm an cdv ct) ps sp := by
  refine ⟨len, fun A outer s H args us vs Q E hr e0 hb r hsp => ?_⟩
  have hl := len _ _ _ _ hsp
  have KX : K.In s.heap := e0.mod.kin.keeps fun b o e => (e0.bs b o e).1
  have lim : s.heap.NoLimit := e0.mod.nolimit.keeps fun b o e => (e0.bs b o e).1
  have hkind : ∀ y ∈ ps.zip us, scope.names.lookup y.1 = some .local ∨ (scope.names.lookup y.1 = some .cell ∧ ((cellsFrom (s.heap.objs.size + 1) scope.names []).lookup y.1).isSome = true) := fun ⟨n, v⟩ hy => by
    rcases S.par n (List.of_mem_zip hy).1 with q | q
    · exact .inl q
    · exact .inr ⟨q, PySem.W.cellsFrom_some _ _ _ (.inl q)⟩
  refine codeAny_call_function hr.depth (KX _ _ lk) rfl S.co S.gen rfl (PySem.W.codeRec_of KX hcd) (hb _ _ _ _ ?_)
  refine wpAny_newFunctionEnv_cells S.kind hkind fun env he s1 x => ?_
  subst he
  refine ⟨lim.keeps x.toInCall.keep, codeAny_func ?_⟩
  obtain ⟨t, ht, hq⟩ := hbody A outer s H vs Q E (hr.deeper _) hsp
  have I : Inv (xh CX P w K mg base N qual scope f cdv A outer s H E) [] (start N vs) H s1 := Zp S hr.hd e0 hl r x
  refine wpAny_mono (ht [] s1 (start N vs) H _ I hq) (fun fl s' hs => ?_) fun e s' hs => hs
  have fin : ∀ {σ' : St} {H' : Hp} {v : V} {u : Value}, Inv (xh CX P w K mg base N qual scope f cdv A outer s H E) [] σ' H' s' → RelV v u → Q v H' → CE outer P w H s Q u s' :=
    fun {σ' H' v u} J rv q => ⟨v, H', J.os, J.bare, J.base, J.hok, rv, q⟩
  cases fl with
  | ret u =>
    obtain ⟨v, σ', H', J, rv, q⟩ := hs
    exact fin J rv q
  | next =>
    obtain ⟨σ', H', J, q⟩ := hs
    exact fin (v := V.non) (u := Value.none) J rfl q
  | brk =>
    obtain ⟨_, _, _, q⟩ := hs
    exact False.elim q
  | cont =>
    obtain ⟨_, _, _, q⟩ := hs
    exact False.elim q
end L2
namespace L2
open PySem PySem.Spec PyProof.Rows
section
variable {X : Cx} {x : Str} {p pos : Pos} {e : Expr} {es : List Expr} {t : TA} {id T : String} {r : List V → Hp → VK → Prop}
noncomputable def tCB (r : List V → Hp → VK → Prop) (t : TA) : TE := fun σ H Q => t σ H fun vs H1 => r vs H1 Q
theorem zE (hc : zP X (.builtin id) r) (hg : Gl X x) (hm : X.mg x = none) (hv : bootBuiltins x = some (.builtin id)) (ha : PA X (e :: es) t) (hn : x ≠ "__name__" := by decide) (hdb : (x == ("__debug__" : Str)) = false := by decide)
    (he : starEach (e :: es) X.env = (false, eval e X.env) :: starEach es X.env := by rfl) (hpl : (backTo pos (starEach es X.env)).any (·.1) = false := by rfl) : PE X (.Call (.Name x p) (e :: es) [] pos) (tCB r t) := by
  intro pins s σ H Q I h
  refine wpAny_Call_Name_kw (x5 I hg hm hv ?_ hn hdb)
  exact PyProof.Rows.callWith_builtin1 (thn (ha pos pins s σ H _ I h) fun us s1 ⟨vs, H1, I1, r1, q1⟩ => hc pins s1 σ H1 vs us Q I1 r1 q1) he hpl
theorem xw (hc : zP X (.type T) r) (hg : Gl X x) (hm : X.mg x = none) (hv : bootBuiltins x = some (.type T)) (ha : PA X (e :: es) t) (hn : x ≠ "__name__" := by decide) (hdb : (x == ("__debug__" : Str)) = false := by decide)
    (he : starEach (e :: es) X.env = (false, eval e X.env) :: starEach es X.env := by rfl) (hpl : (backTo pos (starEach es X.env)).any (·.1) = false := by rfl) : PE X (.Call (.Name x p) (e :: es) [] pos) (tCB r t) := by
  intro pins s σ H Q I h
  refine wpAny_Call_Name_kw (x5 I hg hm hv ?_ hn hdb)
  exact PyProof.Rows.callWith_type1 (thn (ha pos pins s σ H _ I h) fun us s1 ⟨vs, H1, I1, r1, q1⟩ => hc pins s1 σ H1 vs us Q I1 r1 q1) he hpl
end
end L2
namespace HT
open PySem PyProof.Rows
section
open PySem.SeqAt
open PySem.AutoSeq1 (wpAny_loadPart')
open PySem.MeetsSeq PySem.MeetsSeq2 PySem.MeetsSeq3
end
section
variable {prog : Program} {w : World} {A : Around} {E : Value → Shared → Prop} {s : Shared}
noncomputable def sIx (n d : Nat) : Option Int → Nat
  | none => d
  | some v => if v < 0 then (v + (n : Int)).toNat else min v.toNat n
theorem sIx_nat (n d k : Nat) : sIx n d (some (k : Int)) = min k n := by
  show (if (k : Int) < 0 then ((k : Int) + (n : Int)).toNat else min (k : Int).toNat n) = min k n
  rw [if_neg (by omega), Int.toNat_natCast]
end
end HT
namespace L2
open PySem PySem.Spec PyProof.Rows
noncomputable abbrev TO := St → Hp → (Option Int → Hp → Prop) → Prop
noncomputable def PO (X : Cx) (e : Option Expr) (t : TO) : Prop :=
  ∀ (pins : List (Addr × Obj)) (s : Shared) (σ : St) (H : Hp) (Q : Option Int → Hp → Prop), Inv X pins σ H s → t σ H Q →
    wpAny (model X.prog X.w) X.A (evalPart e X.env) (fun u s' => ∃ o H', Inv X pins σ H' s' ∧ IsPart u o ∧ Q o H') X.xe s
noncomputable def jM : TO := fun _ H Q => Q none H
noncomputable def Xy (t : TE) : TO := fun σ H Q => t σ H fun x H1 => ∃ i, x = .int i ∧ Q (some i) H1
section
variable {X : Cx} {e : Expr} {te : TE} {lo hi : Option Expr} {tl th : TO} {pos p2 : Pos}
theorem jN : PO X none jM := by
  intro pins s σ H Q I h
  rw [evalPart_none]
  exact wpAny_pure ⟨none, H, I, .none, h⟩
theorem y7 (h : PE X e te) : PO X (some e) (Xy te) := by
  intro pins s σ H Q I hw
  rw [evalPart_some]
  refine thn (h pins s σ H _ I hw) fun u s1 ⟨x, H1, I1, r1, q1⟩ => ?_
  obtain ⟨i, rfl, q⟩ := q1
  obtain ⟨t, rfl⟩ := r1
  exact ⟨some i, H1, I1, .int i t, q⟩
noncomputable def SlR (X : Cx) (r : V → Option Int → Option Int → Hp → VK → Prop) : Prop :=
  ∀ (pins : List (Addr × Obj)) (s : Shared) (σ : St) (H : Hp) (x : V) (v vl vu : Value) (lo hi : Option Int) (sl : Addr) (Q : VK), Inv X pins σ H s → RelV x v → s.heap.IsSliceOf sl vl vu .none → IsPart vl lo → IsPart vu hi → r x lo hi H Q →
    ∃ T id, typeLookup (.type T) "__getitem__" = pure (some (.builtin id)) ∧ s.TypeIs v T ∧ wpAny (model X.prog X.w) X.A (getItem v (.ref sl)) (EP X pins σ Q) X.xe s
theorem SlR.or {r r' : V → Option Int → Option Int → Hp → VK → Prop} (h : SlR X r) (h' : SlR X r') : SlR X (fun x lo hi H Q => r x lo hi H Q ∨ r' x lo hi H Q) := by
  intro pins s σ H x v vl vu lo hi sl Q I rx hs pl pu q
  rcases q with q | q
  · exact h pins s σ H x v vl vu lo hi sl Q I rx hs pl pu q
  · exact h' pins s σ H x v vl vu lo hi sl Q I rx hs pl pu q
noncomputable def tSl (r : V → Option Int → Option Int → Hp → VK → Prop) (te : TE) (tl th : TO) : TE := fun σ H Q => te σ H fun x H1 => tl σ H1 fun l H2 => th σ H2 fun u H3 => r x l u H3 Q
theorem xT {r : V → Option Int → Option Int → Hp → VK → Prop} (hr : SlR X r) (he : PE X e te) (hl : PO X lo tl) (hu : PO X hi th) : PE X (.Subscript e (.Slice lo hi none p2) pos) (tSl r te tl th) := by
  intro pins s σ H Q I h
  refine Subscript_ (thn (he pins s σ H _ I h) fun v s1 ⟨x, H1, I1, r1, q1⟩ => ?_)
  refine wpAny_Slice (thn (hl pins s1 σ H1 _ I1 q1) fun vl s2 ⟨l, H2, I2, pl, q2⟩ => thn (hu pins s2 σ H2 _ I2 q2) fun vu s3 ⟨u, H3, I3, pu, q3⟩ => ?_)
  rw [evalPart_none]
  refine wpAny_pure ?_
  have I4 : Inv X pins σ H3 { s3 with heap := s3.heap.push { cls := .type "slice", data := .fields #[vl, vu, .none] } } := I3.kept (t' := s3.toks) fun b ob q => Heap.get?_push_of_some _ q
  obtain ⟨T, id, hT, ht, hg⟩ := hr pins { s3 with heap := s3.heap.push { cls := .type "slice", data := .fields #[vl, vu, .none] } } σ H3 x v vl vu l u s3.heap.objs.size Q I4 r1 (Heap.IsSliceOf.new ..) pl pu q3
  show wpAny (model X.prog X.w) X.A (subscriptTail e (.Slice lo hi none p2) v (.ref s3.heap.objs.size)) (EP X pins σ Q) X.xe { s3 with heap := s3.heap.push { cls := .type "slice", data := .fields #[vl, vu, .none] } }
  exact tail_any (ops := [.ref s3.heap.objs.size, v]) ht hT hg (by with_unfolding_all rfl)
noncomputable def uI (xs : List V) (lo hi : Option Int) : List V := (xs.drop (HT.sIx xs.length 0 lo)).take (HT.sIx xs.length xs.length hi - HT.sIx xs.length 0 lo)
theorem jC (xs : List V) (lo hi : Option Int) : (uI xs lo hi).length ≤ xs.length := by
  unfold uI
  rw [List.length_take, List.length_drop]
  omega
end
end L2
namespace L2
open PySem PySem.Spec PyProof.Rows
noncomputable def ixN (n : Nat) (i : Int) : Option Nat := if 0 ≤ i then (if i < n then some i.toNat else none) else if -(n : Int) ≤ i then some (i + n).toNat else none
noncomputable def atI {α : Type} (xs : List α) (i : Int) : Option α := (ixN xs.length i).bind fun j => xs[j]?
theorem Vn {n : Nat} {i : Int} {j : Nat} (h : ixN n i = some j) : seqIndex? i n = some j ∧ j < n ∧ -(n : Int) ≤ i ∧ i < n := by
  unfold ixN at h
  by_cases h0 : 0 ≤ i
  · rw [if_pos h0] at h
    by_cases h1 : i < n
    · rw [if_pos h1] at h
      have e : i.toNat = j := Option.some.inj h
      exact ⟨by rw [seqIndex_of h0 h1, e], by omega, by omega, h1⟩
    · rw [if_neg h1] at h; cases h
  · rw [if_neg h0] at h
    by_cases h1 : -(n : Int) ≤ i
    · rw [if_pos h1] at h
      have e : (i + n).toNat = j := Option.some.inj h
      exact ⟨by rw [seqIndex_neg (by omega) h1, e], by omega, h1, by omega⟩
    · rw [if_neg h1] at h; cases h
theorem uJ {α : Type} {xs : List α} {i : Int} {v : α} (h : atI xs i = some v) : ∃ j, seqIndex? i xs.length = some j ∧ xs[j]? = some v ∧ j < xs.length ∧ -(xs.length : Int) ≤ i ∧ i < xs.length := by
  unfold atI at h
  cases e : ixN xs.length i with
  | none => rw [e] at h; cases h
  | some j =>
    rw [e] at h
    obtain ⟨h1, h2, h3, h4⟩ := Vn e
    exact ⟨j, h1, h, h2, h3, h4⟩
theorem y8 {α : Type} {xs : List α} {j : Nat} {v : α} (h : xs[j]? = some v) : atI xs (j : Int) = some v := by
  have hj : j < xs.length := (List.getElem?_eq_some_iff.mp h).1
  have e : ixN xs.length (j : Int) = some j := by
    unfold ixN
    rw [if_pos (by omega), if_pos (by omega)]; simp
  unfold atI; rw [e]; exact h
noncomputable def Vo (b : Expr) : Prop := ∀ o i, subscripted b false o i = operate [o, i] (getItem o i)
noncomputable def IxR (X : Cx) (r : R2) : Prop :=
  ∀ (value slice : Expr) (pins : List (Addr × Obj)) (s : Shared) (σ : St) (H : Hp) (x y : V) (v u : Value) (Q : VK), Inv X pins σ H s → RelV x v → RelV y u → r x y H Q →
    subscripted slice false v u = operate [v, u] (getItem v u) → wpAny (model X.prog X.w) X.A (subscriptTail value slice v u) (EP X pins σ Q) X.xe s
noncomputable def MtR (X : Cx) (id : String) (r : V → List V → Hp → VK → Prop) : Prop :=
  ∀ (pins : List (Addr × Obj)) (s : Shared) (σ : St) (H : Hp) (x : V) (xs : List V) (v : Value) (us : List Value) (Q : VK), Inv X pins σ H s → RelV x v → Vals xs us → r x xs H Q →
    wpAny (model X.prog X.w) X.A (call (.builtin id) (v :: us)) (EP X pins σ Q) X.xe s
section
variable {X : Cx} {a b : Expr} {ta tb : TE} {pos : Pos}
theorem IxR.or {r r' : R2} (h : IxR X r) (h' : IxR X r') : IxR X (fun x y H Q => r x y H Q ∨ r' x y H Q) := by
  intro value slice pins s σ H x y v u Q I rx ry q hs
  rcases q with q | q
  · exact h value slice pins s σ H x y v u Q I rx ry q hs
  · exact h' value slice pins s σ H x y v u Q I rx ry q hs
theorem MtR.or {id : String} {r r' : V → List V → Hp → VK → Prop} (h : MtR X id r) (h' : MtR X id r') : MtR X id (fun x xs H Q => r x xs H Q ∨ r' x xs H Q) := by
  intro pins s σ H x xs v us Q I rx rs q
  rcases q with q | q
  · exact h pins s σ H x xs v us Q I rx rs q
  · exact h' pins s σ H x xs v us Q I rx rs q
theorem zQ {r : R2} (hr : IxR X r) (ha : PE X a ta) (hb : PE X b tb) (hs : Vo b) : PE X (.Subscript a b pos) (tOp r ta tb) := by
  intro pins s σ H Q I h
  exact Subscript_ (Yc ha hb I h fun v u s2 x y H2 I2 rx ry q => hr a b pins s2 σ H2 x y v u Q I2 rx ry q (hs _ _))
noncomputable def ku (K : PySem.W.Frag) : R2 := fun x y H Q => ∃ p xs i v, x = .ref p ∧ y = .int i ∧ SqL K H p xs ∧ atI xs i = some v ∧ Q v H
noncomputable def Yl (K : PySem.W.Frag) : R2 := fun x y H Q => ∃ p xs i v, x = .ref p ∧ y = .int i ∧ SqT K H p xs ∧ atI xs i = some v ∧ Q v H
noncomputable def UL : R2 := fun x y H Q => ∃ z i c, x = .str z ∧ y = .int i ∧ z.length ≤ sizeLine ∧ atI z.cps.toList i = some c ∧ Q (.str ⟨#[c]⟩) H
theorem Vp : IxR X (ku X.K) := by
  intro value slice pins s σ H x y v u Q I rx ry h hs
  obtain ⟨p, xs, i, z, rfl, rfl, hq, he, q⟩ := h
  cases rx
  obtain ⟨t, rfl⟩ := ry
  obtain ⟨its, r, pl, hz⟩ := I.list hq
  obtain ⟨j, h1, h2, h3, h4, h5⟩ := uJ he
  obtain ⟨w, ew, rw'⟩ := r.get h2
  have hl := r.length
  have hn := xI
  have fin : EP X pins σ Q w s := ⟨z, H, I, rw', q⟩
  by_cases h0 : 0 ≤ i
  · have hj : i.toNat = j := by
      rw [seqIndex_of h0 h5] at h1
      exact Option.some.inj h1
    exact item_listR pl.isList h0 (by omega) (by rw [hj]; simpa using ew) fin hs
  · have hj : (i + (its.toArray.size : Int)).toNat = j := by
      rw [seqIndex_neg (by omega) h4] at h1
      rw [List.size_toArray, ← hl]
      exact Option.some.inj h1
    exact subscriptTail_builtinR (x := w) pl.isList.typeIs slot_list_getitem.lookup
      (wpAny_getItem_list_neg (Q := fun r s' => r = w ∧ EP X pins σ Q r s') pl.isList (by omega) (by rw [List.size_toArray] <;> omega) (by omega) (by rw [hj]; simpa using ew) ⟨rfl, fin⟩) hs
theorem UM : IxR X (Yl X.K) := by
  intro value slice pins s σ H x y v u Q I rx ry h hs
  obtain ⟨p, xs, i, z, rfl, rfl, hq, he, q⟩ := h
  cases rx
  obtain ⟨t, rfl⟩ := ry
  obtain ⟨its, r, pl, hz⟩ := I.tuple hq
  obtain ⟨j, h1, h2, h3, h4, h5⟩ := uJ he
  obtain ⟨w, ew, rw'⟩ := r.get h2
  have hl := r.length
  have hn := xI
  have fin : EP X pins σ Q w s := ⟨z, H, I, rw', q⟩
  exact subscriptTail_builtinR (x := w) pl.typeIs slot_tuple_getitem.lookup
    (getItem_tuple (j := j) (Q := fun r s' => r = w ∧ EP X pins σ Q r s') pl (by omega) (by omega) (by rw [List.size_toArray, ← hl]; exact h1) (by simpa using ew) ⟨rfl, fin⟩) hs
theorem yB : IxR X UL := by
  intro value slice pins s σ H x y v u Q I rx ry h hs
  obtain ⟨z, i, c, rfl, rfl, hz, he, q⟩ := h
  obtain ⟨t, rfl⟩ := rx
  obtain ⟨t', rfl⟩ := ry
  obtain ⟨j, h1, h2, h3, h4, h5⟩ := uJ he
  have hl : z.cps.toList.length = z.length := by simp [Str.length]
  rw [hl] at h1 h4 h5
  have hn := xI
  exact tail_any (typeIs_str s z t) slot_str_getitem.lookup (getItem_str (c := c) (by
    have e1 : decide (i < -(2 ^ 63 : Int)) = false := decide_eq_false (by omega)
    have e2 : decide (i ≥ 2 ^ 63) = false := decide_eq_false (by omega)
    rw [e1, e2, Bool.or_false]) (by rw [h1]; simpa using h2) ⟨.str ⟨#[c]⟩, H, I.tok _, ⟨_, rfl⟩, q⟩) hs
theorem Inv.lst {pins : List (Addr × Obj)} {σ : St} {H : Hp} {s : Shared} {p : Addr} {xs : List V} (I : Inv X pins σ H s) (h : H p = some (.lst xs)) :
    ∃ (its : List Value) (n : Nat), Vals xs its ∧ s.heap.get? p = some { cls := .type "list", data := .seq its.toArray n } ∧ xs.length ≤ sizeLine := by
  obtain ⟨z, its, n, r, e⟩ := I.hok p _ h
  exact ⟨its, n, r, e, z⟩
theorem qQ (lo hi : Option Int) (n : Nat) : (sliceBounds lo hi none n).1 = ((HT.sIx n 0 lo : Nat) : Int) ∧ (sliceBounds lo hi none n).2.1 = ((HT.sIx n n hi : Nat) : Int) ∧ (sliceBounds lo hi none n).2.2 = 1 := by
  refine ⟨?_, ?_, rfl⟩
  · cases lo with
    | none => simp [sliceBounds, HT.sIx]
    | some i =>
      simp only [sliceBounds, HT.sIx, Option.getD_none, show (1 : Int) > 0 by decide, if_true]
      by_cases h : i < 0
      · simp only [h, if_true] <;> omega
      · simp only [h, if_false] <;> omega
  · cases hi with
    | none => simp [sliceBounds, HT.sIx]
    | some i =>
      simp only [sliceBounds, HT.sIx, Option.getD_none, show (1 : Int) > 0 by decide, if_true]
      by_cases h : i < 0
      · simp only [h, if_true] <;> omega
      · simp only [h, if_false] <;> omega
theorem qr (its : List Value) (lo hi : Option Int) : slicePick its.toArray lo hi none = ((its.drop (HT.sIx its.length 0 lo)).take (HT.sIx its.length its.length hi - HT.sIx its.length 0 lo)).toArray := by
  obtain ⟨h1, h2, h3⟩ := qQ lo hi its.toArray.size
  unfold slicePick
  rw [h1, h2, h3]
  simp only [sliceRange_one, pick_run, List.size_toArray] <;> rfl
noncomputable def Ym (K : PySem.W.Frag) : V → Option Int → Option Int → Hp → VK → Prop := fun x lo hi H Q => ∃ a xs, x = .ref a ∧ SqL K H a xs ∧ ∀ p, H p = none → Q (.ref p) (upd H p (.lst (uI xs lo hi)))
theorem Vq : SlR X (Ym X.K) := by
  intro pins s σ H x v vl vu lo hi sl Q I rx hs pl pu h
  obtain ⟨a, xs, rfl, hx, q⟩ := h
  cases rx
  obtain ⟨its, r, ht, hz⟩ := I.list hx
  have hlen := r.length
  refine ⟨"list", _, slot_list_getitem.lookup, ht.isList.typeIs, ?_⟩
  refine wpAny_getItem_list_slice ht.isList hs pl pu .none (by simp) ?_ (by rw [List.size_toArray] <;> omega)
  rw [qr, ← hlen]
  refine ⟨.ref s.heap.objs.size, _, I.laid (t' := s.toks) (o := .lst (uI xs lo hi)) (fun b ob q => Heap.get?_push_of_some _ q) (Nat.le_refl _) ?_, rfl, q _ (I.hok.fresh (Nat.le_refl _))⟩
  exact ⟨Nat.le_trans (jC xs lo hi) hz, _, 0, (r.drop (HT.sIx xs.length 0 lo)).take (HT.sIx xs.length xs.length hi - HT.sIx xs.length 0 lo), Heap.get?_push_size _ rfl⟩
theorem qR : zP X (.builtin "len") (fun xs H Q => ∃ p ys, xs = [.ref p] ∧ (SqL X.K H p ys ∨ SqT X.K H p ys) ∧ Q (.int ys.length) H) := by
  intro pins s σ H xs us Q I r h
  obtain ⟨p, ys, rfl, hq, q⟩ := h
  obtain ⟨u, rfl, rx⟩ := xv r
  cases rx
  have hn := xI
  rcases hq with hq | hq
  · obtain ⟨its, r', pl, hz⟩ := I.list hq
    have hlen := r'.length
    exact Calls.call_len_list pl.isList (by simp only [List.size_toArray] <;> omega) ⟨.int ys.length, H, I.tok _, ⟨s.toks + 1, by rw [List.size_toArray, hlen]⟩, q⟩
  · obtain ⟨its, r', pl, hz⟩ := I.tuple hq
    have hlen := r'.length
    exact len_tuple pl (by simp only [List.size_toArray] <;> omega) ⟨.int ys.length, H, I.tok _, ⟨s.toks + 1, by rw [List.size_toArray, hlen]⟩, q⟩
theorem zZ : zP X (.builtin "len") (fun xs H Q => ∃ z, xs = [.str z] ∧ z.length ≤ sizeLine ∧ Q (.int z.length) H) := by
  intro pins s σ H xs us Q I r h
  obtain ⟨z, rfl, hz, q⟩ := h
  obtain ⟨u, rfl, t, rfl⟩ := xv r
  have hn := xI
  exact len_str (by omega) ⟨.int z.length, H, I.tok _, ⟨_, rfl⟩, q⟩
theorem zP.or {f : Value} {r r' : List V → Hp → VK → Prop} (h : zP X f r) (h' : zP X f r') : zP X f (fun xs H Q => r xs H Q ∨ r' xs H Q) := by
  intro pins s σ H xs us Q I rs q
  rcases q with q | q
  · exact h pins s σ H xs us Q I rs q
  · exact h' pins s σ H xs us Q I rs q
theorem qt : zP X (.type "tuple") (fun xs H Q => ∃ p ys, xs = [.ref p] ∧ ((SqL X.K H p ys ∧ ∀ l, H l = none → Q (.ref l) (upd H l (.tup ys))) ∨ (SqT X.K H p ys ∧ Q (.ref p) H))) := by
  intro pins s σ H xs us Q I r h
  obtain ⟨p, ys, rfl, h⟩ := h
  obtain ⟨u, rfl, rx⟩ := xv r
  cases rx
  rcases h with ⟨hq, q⟩ | ⟨hq, q⟩
  · obtain ⟨its, r', pl, hz⟩ := I.list hq
    have hlen := r'.length
    refine call_tuple_list pl.isList (fun h' kp => ?_) (by simp only [List.size_toArray] <;> omega)
    have I1 : Inv X pins σ H { s with heap := h' } := I.kept (t' := s.toks) kp
    have I2 : Inv X pins σ (upd H h'.objs.size (.tup ys)) { s with heap := h'.push { cls := .type "tuple", data := .seq its.toArray } } :=
      I1.laid (t' := s.toks) (fun b o e => Heap.get?_push_of_some _ e) (Nat.le_refl _) (show zN X.prog X.w _ _ _ (.tup ys) from ⟨hz, its, r', IsTup.new _ _⟩)
    exact ⟨.ref h'.objs.size, _, I2, rfl, q _ (I1.hok.fresh (Nat.le_refl _))⟩
  · obtain ⟨its, r', pl, hz⟩ := I.tuple hq
    exact call_tuple_same pl ⟨.ref p, H, I, rfl, q⟩
noncomputable def tyV (K : PySem.W.Frag) (T : String) (x : V) (H : Hp) : Prop := match x with
  | .str _ => T = "str"
  | .int _ => T = "int"
  | .ref p => (T = "list" ∧ ∃ xs, SqL K H p xs) ∨ (T = "tuple" ∧ ∃ o, K.lookup p = some o ∧ o.cls = .type "tuple" ∧ o.dict = none) ∨
      (T = "dict" ∧ ((∃ kvs, H p = some (.dK kvs)) ∨ ∃ kvs, H p = some (.dT kvs))) ∨ (T = "set" ∧ ∃ S n, H p = some (.set S n))
  | _ => False
theorem Zq {pins : List (Addr × Obj)} {σ : St} {H : Hp} {s : Shared} {T : String} {x : V} {v : Value} (I : Inv X pins σ H s) (r : RelV x v) (ty : tyV X.K T x H) :
    s.TypeIs v T ∧ ∀ a, v = .ref a → ∃ ob, s.heap.get? a = some ob ∧ ob.dict = none := by
  cases x with
  | str z =>
    obtain ⟨t, rfl⟩ := r
    cases (show T = "str" from ty)
    exact ⟨typeIs_str s z t, fun _ e => nomatch e⟩
  | int i =>
    obtain ⟨t, rfl⟩ := r
    cases (show T = "int" from ty)
    exact ⟨typeIs_int s i t, fun _ e => nomatch e⟩
  | ref p =>
    cases r
    rcases ty with ⟨rfl, xs, hq⟩ | ⟨rfl, o, hk, hc, hd⟩ | ⟨rfl, hk⟩ | ⟨rfl, S, n, hk⟩
    · obtain ⟨its, _, pl, _⟩ := I.list hq
      refine ⟨pl.isList.typeIs, fun a e => ?_⟩
      cases e
      obtain ⟨o, n, e, c, hd, _⟩ := pl
      exact ⟨o, e, hd⟩
    · refine ⟨⟨o, I.kIn p o hk, hc⟩, fun a e => ?_⟩
      cases e
      exact ⟨o, I.kIn _ o hk, hd⟩
    · have z : ∃ o, s.heap.get? p = some o ∧ o.ExactDict := by
        rcases hk with ⟨kvs, hk⟩ | ⟨kvs, hk⟩
        · obtain ⟨_, _, _, _, o, _, _, e, ex, _⟩ := I.hok p _ hk
          exact ⟨o, e, ex⟩
        · obtain ⟨_, _, _, _, o, _, _, e, ex, _⟩ := I.hok p _ hk
          exact ⟨o, e, ex⟩
      obtain ⟨o, e, ex⟩ := z
      refine ⟨⟨o, e, ex.1⟩, fun a e2 => ?_⟩
      cases e2
      exact ⟨o, e, ex.2.1⟩
    · obtain ⟨o, _, _, _, e, ex, _⟩ := I.hok p _ hk
      refine ⟨⟨o, e, ex.1⟩, fun a e2 => ?_⟩
      cases e2
      exact ⟨o, e, ex.2.1⟩
  | _ => exact False.elim ty
noncomputable def Yn (K : PySem.W.Frag) (T : String) (r : V → List V → Hp → VK → Prop) (to : TE) : TE := fun σ H Q => to σ H fun x H1 => tyV K T x H1 ∧ r x [] H1 Q
noncomputable def tBM (K : PySem.W.Frag) (T : String) (r : V → List V → Hp → VK → Prop) (to : TE) (t : TA) : TE := fun σ H Q => to σ H fun x H1 => tyV K T x H1 ∧ t σ H1 fun xs H2 => r x xs H2 Q
variable {o e : Expr} {es : List Expr} {to : TE} {t : TA} {name : Str} {apos cpos : Pos} {T id : String} {r : V → List V → Hp → VK → Prop}
theorem UN (pa : PlainAttrs T) (slot : Slot T name id) (hty : typeOf (.builtin id) = pure (.type "method_descriptor")) (hm : MtR X id r) (ho : PE X o to)
    (hbase : attributeBase o name X.env (eval o X.env) = eval o X.env := by rfl) (hline : (apos.endLine == cpos.line) = true := by rfl) : PE X (.Call (.Attribute o name apos) [] [] cpos) (Yn X.K T r to) := by
  intro pins s σ H Q I h
  refine wpAny_Call_method0_late hbase hline (thn (ho pins s σ H _ I h) fun v s1 ⟨x, H1, I1, r1, ty, q1⟩ => ?_)
  obtain ⟨h1, h2⟩ := Zq I1 r1 ty
  exact ⟨T, id, pa, slot, hty, h1, h2, Calls.callWith_builtin rfl (PySem.evalArgs_none (hm pins s1 σ H1 x [] v [] Q I1 r1 .nil q1))⟩
theorem QY (pa : PlainAttrs T) (slot : Slot T name id) (hty : typeOf (.builtin id) = pure (.type "method_descriptor")) (hm : MtR X id r) (ho : PE X o to) (ha : PA X (e :: es) t)
    (hbase : attributeBase o name X.env (eval o X.env) = eval o X.env := by rfl)
    (hfew : ((backTo cpos (starEach (e :: es) X.env)).all (fun x => !x.1) && (backToKw cpos (keywordEach [] X.env)).all (fun x => x.1.isSome)
      && decide ((e :: es).length + ([] : List Keyword).length + (if ([] : List Keyword).isEmpty then 0 else 1) < 30)) = true := by rfl)
    (hline : (apos.endLine == cpos.line) = true := by rfl) (hs : starEach (e :: es) X.env = (false, eval e X.env) :: starEach es X.env := by rfl) (hplain : (backTo cpos (starEach es X.env)).any (·.1) = false := by rfl) :
    PE X (.Call (.Attribute o name apos) (e :: es) [] cpos) (tBM X.K T r to t) := by
  intro pins s σ H Q I h
  refine wpAny_Call_method_late hbase hfew hline rfl (thn (ho pins s σ H _ I h) fun v s1 ⟨x, H1, I1, r1, ty, q1⟩ => ?_)
  obtain ⟨h1, h2⟩ := Zq I1 r1 ty
  refine ⟨T, id, pa, slot, hty, h1, h2, ?_⟩
  have hA := ha cpos pins s1 σ H1 _ I1 q1
  rw [hs] at hA ⊢
  refine Calls.callWith_builtin (by show (false || (backTo cpos (starEach es X.env)).any (·.1)) = false; rw [hplain] <;> rfl) (Calls.evalArgs_plain ?_)
  exact thn hA fun us s2 ⟨vs, H2, I2, r2, q2⟩ => hm pins s2 σ H2 x vs v us Q I2 r1 r2 q2
end
end L2
namespace L2
open PySem PySem.Spec PyProof.Rows
noncomputable def MtM (X : Cx) (id : String) (r : V → List V → Hp → VK → Prop) : Prop :=
  ∀ (pins : List (Addr × Obj)) (s : Shared) (σ : St) (H : Hp) (x : V) (xs : List V) (v : Value) (us : List Value) (Q : VK), Inv X pins σ H s → RelV x v → Vals xs us → r x xs H Q →
    wpAny (model X.prog X.w) X.A (call (.builtin id) (v :: us)) (EP X pins σ Q) X.xe s
theorem Vals.one : ∀ {x : V} {us : List Value}, Vals [x] us → ∃ u, us = [u] ∧ RelV x u
  | _, _, .cons r .nil => ⟨_, rfl, r⟩
theorem Vals.two : ∀ {x y : V} {us : List Value}, Vals [x, y] us → ∃ u v, us = [u, v] ∧ RelV x u ∧ RelV y v
  | _, _, _, .cons r (.cons q .nil) => ⟨_, _, rfl, r, q⟩
theorem Vals.zero : ∀ {us : List Value}, Vals [] us → us = []
  | _, .nil => rfl
theorem Vals.dropLast {xs : List V} {us : List Value} (h : Vals xs us) : Vals xs.dropLast us.dropLast := by
  induction h with
  | nil => exact .nil
  | cons r t ih =>
    cases t with
    | nil => exact .nil
    | cons q t' => exact .cons r ih
theorem Vals.rep {xs : List V} {us : List Value} (h : Vals xs us) : ∀ k : Nat, Vals (List.replicate k xs).flatten (List.replicate k us).flatten
  | 0 => .nil
  | k + 1 => by
    rw [List.replicate_succ, List.replicate_succ, List.flatten_cons, List.flatten_cons]
    exact Vals.append h (Vals.rep h k)
theorem qd (its : List Value) : ∀ (k : Nat) (acc : List Value),
    List.foldl (fun x1 x2 => x1 ++ x2) acc.toArray (List.replicate k its.toArray) = (acc ++ (List.replicate k its).flatten).toArray
  | 0, acc => by simp
  | k + 1, acc => by
    have e : acc.toArray ++ its.toArray = (acc ++ its).toArray := by simp
    have e2 : (acc ++ its) ++ (List.replicate k its).flatten = acc ++ (List.replicate (k + 1) its).flatten := by
      rw [List.replicate_succ, List.flatten_cons, List.append_assoc]
    rw [← e2, ← qd its k (acc ++ its), ← e, List.replicate_succ, List.foldl_cons]
section
variable {X : Cx} {pins : List (Addr × Obj)} {σ : St} {H : Hp} {s : Shared} {l b : Addr} {xs ys zs : List V}
theorem Inv.lset {its its' : List Value} {n : Nat} {f : Array Value → Array Value} {t' : Nat} (I : Inv X pins σ H s) (hH : H l = some (.lst xs))
    (e : s.heap.get? l = some { cls := .type "list", data := .seq its.toArray n }) (hf : f its.toArray = its'.toArray) (hv : Vals ys its') (hz : ys.length ≤ sizeLine) :
    Inv X pins σ (upd H l (.lst ys)) { s with heap := s.heap.update l (Obj.mapSeq f), toks := t' } := by
  have q := PySem.IsL.update e f
  rw [hf] at q
  refine I.write (x := l) (e := l) (by rw [hH]; exact trivial) (.inl rfl) (fun b' u hb hu => (Heap.get?_update_other s.heap (Obj.mapSeq f) (Ne.symm hb)).trans hu) ⟨_, q⟩ ?_
  exact ⟨hz, its', _, hv, q⟩
theorem Inv.lnew {its : List Value} {t' : Nat} (I : Inv X pins σ H s) (hv : Vals ys its) (hz : ys.length ≤ sizeLine) :
    Inv X pins σ (upd H s.heap.objs.size (.lst ys)) { s with heap := s.heap.push { cls := .type "list", data := .seq its.toArray }, toks := t' } :=
  I.laid (fun _ _ q => Heap.get?_push_of_some _ q) (Nat.le_refl _) ⟨hz, its, 0, hv, Heap.get?_push_size _ rfl⟩
theorem Inv.fresh (I : Inv X pins σ H s) : H s.heap.objs.size = none := I.hok.fresh (Nat.le_refl _)
theorem Inv.lstM (I : Inv X pins σ H s) (hH : H l = some (.lst xs)) : xs.length ≤ sizeLine ∧ ∃ (its : List Value) (n : Nat), Vals xs its ∧ xs.length = its.length ∧ s.heap.get? l = some { cls := .type "list", data := .seq its.toArray n } := by
  obtain ⟨z, its, n, r, e⟩ := I.hok l _ hH
  exact ⟨z, its, n, r, r.length, e⟩
theorem qS {n : Nat} (h : n ≤ sizeLine) : Builtin.List.listTooLong n = false := by
  unfold Builtin.List.listTooLong
  exact decide_eq_false (by omega)
end
section
variable {X : Cx}
noncomputable def jO : V → List V → Hp → VK → Prop := fun x vs H Q => ∃ l xs y, x = .ref l ∧ vs = [y] ∧ H l = some (.lst xs) ∧ xs.length < sizeLine ∧ Q .non (upd H l (.lst (xs ++ [y])))
theorem yb : MtM X "list.append" jO := by
  intro pins s σ H x vs v us Q I rx rv h
  obtain ⟨l, xs, y, rfl, rfl, hH, hz, q⟩ := h
  cases rx
  obtain ⟨u, rfl, ru⟩ := rv.one
  obtain ⟨z, its, n, r, hl, e⟩ := I.lstM hH
  refine call_meets F.slot_list_append ⟨_, e, rfl⟩ F.entry_list_append (F.args_list_append_2 _ _) (PySem.list_append l its.toArray n u (by rw [List.size_toArray]; omega)) ⟨e, ?_⟩
  refine ⟨.non, _, I.lset (its' := its ++ [u]) hH e (by simp) (r.append (.cons ru .nil)) ?_, rfl, q⟩
  rw [List.length_append, List.length_singleton]
  omega
noncomputable def jP : V → List V → Hp → VK → Prop := fun x vs H Q => ∃ l b xs zs, x = .ref l ∧ vs = [.ref b] ∧ H l = some (.lst xs) ∧ H b = some (.lst zs) ∧ xs.length + zs.length ≤ sizeLine ∧ Q .non (upd H l (.lst (xs ++ zs)))
theorem Zr : MtM X "list.extend" jP := by
  intro pins s σ H x vs v us Q I rx rv h
  obtain ⟨l, b, xs, zs, rfl, rfl, hH, hB, hz, q⟩ := h
  cases rx
  obtain ⟨u, rfl, ru⟩ := rv.one
  cases ru
  obtain ⟨z, its, n, r, hl, e⟩ := I.lstM hH
  obtain ⟨z2, its2, n2, r2, hl2, e2⟩ := I.lstM hB
  have hsz : its.toArray.size + its2.toArray.size ≤ sizeLine := by rw [List.size_toArray, List.size_toArray]; omega
  have hlong : ¬ (!its.toArray.isEmpty && Builtin.List.listTooLong (its.toArray.size + its2.toArray.size)) = true := by
    rw [qS hsz, Bool.and_false]
    exact Bool.false_ne_true
  refine call_meets F.slot_list_extend ⟨_, e, rfl⟩ F.entry_list_extend (F.args_list_extend_2 _ _)
    (AutoSeq1.list_extend_list_list_0 l its.toArray n b its2.toArray n2 hlong (by rw [List.size_toArray]; omega) (by omega)) ⟨e, e2, ?_⟩
  refine ⟨.non, _, I.lset (its' := its ++ its2) hH e (by simp) (r.append r2) ?_, rfl, q⟩
  rw [List.length_append]
  omega
noncomputable def UO : R2 := fun x y H Q => ∃ l k xs, x = .ref l ∧ y = .int k ∧ H l = some (.lst xs) ∧ -(2 ^ 63) ≤ k ∧ k < 2 ^ 63 ∧ xs.length * k.toNat ≤ sizeLine ∧
  ∀ p, H p = none → Q (.ref p) (upd H p (.lst (List.replicate k.toNat xs).flatten))
theorem Vr {α : Type} (xs : List α) (k : Nat) : (List.replicate k xs).flatten.length = k * xs.length := by
  induction k with
  | zero => simp
  | succ k ih => rw [List.replicate_succ, List.flatten_cons, List.length_append, ih, Nat.succ_mul, Nat.add_comm]
theorem UP : OpR X (binaryOp .Mult) UO := by
  intro pins s σ H x y v u Q I rx ry h
  obtain ⟨l, k, xs, rfl, rfl, hH, h1, h2, hz, q⟩ := h
  cases rx
  obtain ⟨t, rfl⟩ := ry
  obtain ⟨z, its, n, r, hl, e⟩ := I.lstM hH
  have hlen : its.toArray.size * k.toNat ≤ sizeLine := by rw [List.size_toArray, ← hl]; exact hz
  have hcap : ¬ its.toArray.size * k.toNat > (2 ^ 63 - 1) / 8 := by
    have : (sizeLine : Nat) ≤ (2 ^ 63 - 1) / 8 := by decide
    omega
  have hfit : ¬ (!Builtin.List.listFitsIndex k) = true := by
    rw [fitsIndex_both h1 h2]
    exact Bool.false_ne_true
  have hlong : ¬ Builtin.List.listTooLong (its.toArray.size * k.toNat) = true := by
    rw [qS hlen]
    exact Bool.false_ne_true
  have hnew : List.foldl (fun x1 x2 => x1 ++ x2) #[] (List.replicate (if its.toArray.isEmpty = true then 0 else k.toNat) its.toArray) = (List.replicate k.toNat its).flatten.toArray := by
    have f0 : ∀ m : Nat, List.foldl (fun x1 x2 => x1 ++ x2) #[] (List.replicate m its.toArray) = (List.replicate m its).flatten.toArray := fun m => by
      have := qd its m []
      rw [List.nil_append] at this
      exact this
    rw [f0]
    cases its with
    | nil => simp
    | cons a r' => rw [if_neg (by simp)]
  refine wpAny_binaryOp_repeat_ref (T := "list") (U := "int") (by decide) ⟨_, e, rfl⟩ (fun s' => typeIs_int s' k t) noFill_list_mul F.fills_int_mul F.slot_int_rmul repeat_list F.slot_int_index.lookup
    (call_meets F.slot_int_rmul (typeIs_int s k t) F.entry_int_rmul (F.args_int_rmul_2 _ _) (int___rmul___int_list k t l its.toArray n)
      ⟨e, rfl, ⟨_, e, rfl⟩, call_meets F.slot_list_mul ⟨_, e, rfl⟩ F.entry_list_mul (F.args_list_mul_2 _ _) (AutoListH.list___mul___list_int_3 l its.toArray n k t hfit hcap hlong) ⟨e, ?_⟩⟩)
  rw [hnew]
  exact ⟨.ref _, _, I.lnew (t' := s.toks) (r.rep k.toNat) (by rw [Vr, Nat.mul_comm]; exact hz), rfl, q _ I.fresh⟩
end
section
variable {prog : Program} {w : World} {A : Around} {E : Value → Shared → Prop} {s : Shared}
end
section
variable {X : Cx}
end
end L2
namespace Att
open PySem PySem.W PySem.Calls PyProof.Rows
theorem ue {P : Params} {h : Heap} : ∀ (ns : List Int) (vs : List Value), WellAll P h vs (ns.map WData.int) → IntsAre vs ns := by
  intro ns
  induction ns with
  | nil =>
    intro vs w
    rw [List.map_nil] at w
    cases w
    exact .nil
  | cons n ns ih =>
    intro vs w
    rw [List.map_cons] at w
    cases w with
    | cons a b =>
      cases a
      exact .cons _ _ (ih _ b)
theorem Zs {l : OpenLaw} {n : Nat} (hn : l.most = some n) {P : Params} {h : Heap} {args : List WData} {vals : List Value}
    (hpre : l.row.toRowW.claim.pre args = true) (hwl : WellAll P h vals args) :
    ∃ a vs ns, vals = [Value.ref a] ∧ args = [WData.list (ns.map WData.int)] ∧ h.get? a = some { cls := .type "list", data := .seq vs.toArray } ∧ IntsAre vs ns ∧ ns.length ≤ n := by
  have hsh : WShape.hasAll [] args [.list .int] = true := (pre_splitW hpre).1
  have hc : l.pre.holds [] { args := args } = true := (pre_splitW hpre).2
  obtain ⟨d, r, rfl, h1, h2⟩ := hasAllW_cons hsh
  obtain rfl := hasAllW_nil h2
  obtain ⟨xs, rfl, h3⟩ := hasW_list h1
  obtain ⟨ns, rfl⟩ := items_int h3
  have hlen : ns.length ≤ n := by
    unfold OpenLaw.pre at hc
    have h4 : (WTm.not (.lt (.lit (.int (n : Int))) (.len (.arg 0)))).holds [] { args := [.list (ns.map .int)] } = true := by
      have h4 := (holds_andW hc).1
      rw [hn] at h4
      exact h4
    have h5 := condW_of h4 (w_not (w_lt w_lit (w_len_list (w_arg rfl))))
    rw [List.length_map] at h5
    refine Nat.le_of_not_lt fun q => ?_
    have q' : (n : Int) < ((ns.length : Nat) : Int) := by omega
    first
      | (rw [decide_eq_true q'] at h5; exact absurd h5 (by decide))
      | (simp at h5; omega)
  cases hwl with
  | cons w1 w2 =>
    cases w2
    cases w1 with
    | list ho hall => exact ⟨_, _, ns, rfl, rfl, ho, ue ns _ hall, hlen⟩
theorem Zt (l : OpenLaw) (args : List WData) : l.row.toRowW.claim.post args (.bool true) args = true :=
  postW_of (r := l.row.toRowW) (X := (true == true))
    (show WShape.has [] (.bool true) .bool = true by first | rfl | decide | simp [WShape.has, WShape.arms, WShape.armsAll])
    (show (WTm.eq .res (.lit (.bool true))).value [] { args := args, res := some (.bool true), after := args } = some (.bool (true == true)) from w_eq_bool (w_res rfl) w_lit) rfl
section
variable {prog : Program} {w : World} {A : Around} {E : Value → Shared → Prop} {s : Shared} {K : Frag}
noncomputable def JG (h : Heap) (L d : Addr) : List (Addr × Obj) := (List.range h.objs.size).filterMap fun a => if a = L ∨ a = d then none else (h.get? a).map fun o => (a, o)
end
end Att
namespace L2
open PySem PySem.Spec PyProof.Rows
theorem qe : ∀ {vs : List Value} {ns : List Int}, IntsAre vs ns → Vals (ns.map V.int) vs
  | _, _, .nil => .nil
  | _, _, .cons n t h => .cons ⟨t, rfl⟩ (qe h)
noncomputable def UQ (H : Hp) : Prop := ∀ b, H b = none ∨ ∃ o xs, H b = some (.frz o (.lst xs))
theorem Yo {P : Program} {w : World} {K : PySem.W.Frag} {mg mb : Str → Option Value} {CX : CXT} {k : Nat} {fa a : Addr} {fd : FuncData} {x : Str} {sp : Sp} {s₁ : Shared} {vs : List Value} {ns : List Int}
    (KX : K.In s₁.heap) (hns : s₁.heap.Ns mainGlobals mg) (hb : s₁.heap.Ns builtinsNs mb) (hbb : ∀ x : Str, x ≠ "__name__" → mb x = bootBuiltins x) (hlim : s₁.heap.NoLimit) (hg : s₁.gens = #[])
    (ha : s₁.heap.get? a = some { cls := .type "list", data := .seq vs.toArray }) (hi : IntsAre vs ns) (hl : ns.length ≤ sizeLine) (hr : Room k callerA)
    (F : ∀ base : Heap, K.In base → base.Ns mainGlobals mg → FnOk P w K mg base CX k fa fd [x] sp) (hbind : ∀ (s : Shared) (u : Value), BindsTo s fd ⟨[u], []⟩ [(x, u)])
    (hsp : ∀ H : Hp, UQ H → SqL K H a (ns.map V.int) → sp [.ref a] H (fun v _ => v = .bl true) fun _ _ _ => False)
    (hCX : ∀ H e s', CX [] H s₁ (fun _ _ _ => False) e s' → False) :
    codeAny (model P w) callerA (.call (.ref fa) ⟨[.ref a], []⟩) (fun r s' => r = .ok (.ret (.bool true)) ∧ OldK s₁.heap s'.heap ∧ s'.os = s₁.os ∧ AllBare s'.gens) s₁ := by
  have rv := qe hi
  have lenV := hi.length
  have core : ∀ H : Hp, UQ H → SqL K H a (ns.map V.int) → HOk P w H s₁.heap → (∀ b, H b ≠ none → b = a) → (H a ≠ none → K.lookup a = none) →
      codeAny (model P w) callerA (.call (.ref fa) ⟨[.ref a], []⟩) (fun r s' => r = .ok (.ret (.bool true)) ∧ OldK s₁.heap s'.heap ∧ s'.os = s₁.os ∧ AllBare s'.gens) s₁ := by
    intro H hO hS hok hA hK
    have base_of : ∀ {b : Addr} {o : Obj}, s₁.heap.get? b = some o → H b = none → (xS s₁.heap H).get? b = some o := fun e n => Z7 e n
    have noA : ∀ {b : Addr} {o : Obj} {es : Array DictEntry} {ep : Nat}, s₁.heap.get? b = some o → o.data = .dict es ep → H b = none := fun {b o es ep} e d => by
      cases q : H b with
      | none => rfl
      | some u =>
        have e' : b = a := hA b (by rw [q]; simp)
        subst e'
        rw [ha] at e; cases e
        have d' : Data.seq vs.toArray _ = Data.dict es ep := d
        cases d'
    have nsK : ∀ {b : Addr} {m : Str → Option Value}, s₁.heap.Ns b m → (xS s₁.heap H).Ns b m := fun {b m} ⟨o, es, ep, e, d, r⟩ => ⟨o, es, ep, base_of e (noA e d), d, r⟩
    have hKb : K.In (xS s₁.heap H) := fun b o e => base_of (KX b o e) (by
      cases q : H b with
      | none => rfl
      | some u =>
        have e' : b = a := hA b (by rw [q]; simp)
        subst e'
        rw [hK (by rw [q]; simp)] at e; cases e)
    have hM : Mod K mg (xS s₁.heap H) := ⟨hKb, nsK hns, ⟨mb, nsK hb, hbb⟩, let ⟨mc, h1, h2⟩ := hlim; ⟨mc, nsK h1, h2⟩⟩
    have e0 : Env0 P w K mg (xS s₁.heap H) callerA [] s₁ H := ⟨rfl, hM, fun b o e => Vc e, Nat.le_of_eq (Za _ _), trivial, fun b hb => absurd (show b ∈ ([] : List Addr) from hb) (by simp), hok, .of_eq hg⟩
    refine codeAny_mono ((F _ hKb (nsK hns)).run callerA [] s₁ H ⟨[.ref a], []⟩ [.ref a] [.ref a] _ _ hr e0 (hbind s₁ (.ref a)) (.cons rfl .nil) (hsp H hO hS)) fun r s' h => ?_
    cases r with
    | error e => exact (hCX H e s' h).elim
    | ok fl =>
      cases fl with
      | next => exact False.elim h
      | brk => exact False.elim h
      | cont => exact False.elim h
      | ret u =>
        obtain ⟨v, H', os, bare, un, hok', r', q⟩ := h
        have q' : v = .bl true := q
        subst q'
        obtain rfl : u = Value.bool true := r'
        refine ⟨rfl, OldK.of_keep fun b o e => ?_, os, bare⟩
        cases q : H b with
        | none => exact un.keep b o e q (by intro z; exact absurd (show b ∈ ([] : List Addr) from z) (by simp)) (by simp)
        | some u =>
          rcases hO b with z | ⟨ob, xs, z⟩
          · rw [q] at z; cases z
          · have z2 := un.frzs b ob _ z
            obtain ⟨e1, _⟩ := hok b _ z
            obtain ⟨e2, _⟩ := hok' b _ z2
            rw [e] at e1; cases e1
            exact e2
  cases hk : K.lookup a with
  | some o =>
    have e := KX a o hk
    rw [ha] at e
    cases e
    refine core (fun _ => none) (fun _ => .inl rfl) (.inr ⟨_, vs.toArray, _, hk, rfl, rfl, rfl, by rw [List.size_toArray, lenV]; exact hl, by simpa using rv⟩) (fun b u z => by have z' : (none : Option HO) = some u := z; cases z') (fun b z => absurd rfl z) fun z => absurd rfl z
  | none =>
    refine core (fun b => if b = a then some (.frz { cls := .type "list", data := .seq vs.toArray } (.lst (ns.map V.int))) else none) (fun b => ?_) (.inl (.inr ⟨{ cls := .type "list", data := .seq vs.toArray }, if_pos rfl⟩)) (fun b u z => ?_) (fun b z => ?_) fun _ => hk
    · by_cases hb : b = a
      · exact .inr ⟨_, _, if_pos hb⟩
      · exact .inl (if_neg hb)
    · by_cases hb : b = a
      · have z' := (if_pos hb).symm.trans z
        cases z'
        subst hb
        exact ⟨ha, by rw [List.length_map]; exact hl, vs, _, rv, ha⟩
      · have z' := (if_neg hb).symm.trans z
        cases z'
    · by_cases hb : b = a
      · exact hb
      · exact absurd (if_neg hb) z
end L2
namespace L2
open PySem PySem.Spec PyProof.Rows
end L2
namespace L2
open PySem PySem.Spec PyProof.Rows
noncomputable def xJ (s : Stmt) (j : Nat) : Stmt := match s with
  | .ClassDef _ _ _ body _ _ _ _ _ _ _ => body.getD j (.Pass ⟨0, 0, 0, 0⟩)
  | _ => .Pass ⟨0, 0, 0, 0⟩
noncomputable def defArgs (s : Stmt) : Arguments := match s with
  | .FunctionDef _ a _ _ _ _ _ _ _ _ => a
  | _ => { posonlyargs := [], args := [], vararg := none, kwonlyargs := [], kw_defaults := [], kwarg := none, defaults := [] }
noncomputable def defBody (s : Stmt) : List Stmt := match s with
  | .FunctionDef _ _ b _ _ _ _ _ _ _ => b
  | _ => []
noncomputable def defScope (s : Stmt) : Scope := match s with
  | .FunctionDef _ _ _ _ _ _ sc _ _ _ => sc
  | _ => { kind := .function, names := [], isGenerator := false, isCoroutine := false }
noncomputable abbrev CX0 : CXT := fun _ _ _ _ _ _ => False
noncomputable abbrev E0 : XK := fun _ _ _ => False
theorem qC {X : Cx} : yP CX0 X E0 := fun _ _ _ _ _ _ _ h => h.elim
structure Fun (K : PySem.W.Frag) (x qual : Str) (st : Stmt) (f : Addr) (fd : FuncData) : Prop where
  ex : ∃ (oc : Value) (od : Option Addr) (kV doc pm : Value) (an : Option Addr) (cdv ct : Value) (osl : Array (Option Value)),
    fd = PySem.W.fnOf x qual (defArgs st) (defBody st) (defScope st) .none kV doc pm an cdv ct ∧ K.lookup f = some ⟨oc, od, .func fd, osl⟩ ∧ PySem.W.codeIn K cdv qual = true
  kp : PySem.W.keepIn K (.ref f) = true
section
variable {P : Program} {w : World} {K : PySem.W.Frag} {mg : Str → Option Value} {base : Heap}
theorem Fun.ok {x qual : Str} {st : Stmt} {f : Addr} {fd : FuncData} {N ps : List Str} {k : Nat} {sp : Sp} (F : Fun K x qual st f fd) (S : FnScope N ps (defScope st)) (len : ∀ vs H Q E, sp vs H Q E → vs.length = ps.length)
    (hbody : ∀ (cdv : Value) (A : Around) (outer : List Env) (s : Shared) (H : Hp) (vs : List V) (Q : VK) (E : XK), Room k (A.deeper (envOfC qual (defScope st) s.heap.objs.size f cdv)) → sp vs H Q E →
      ∃ t, PSs (xh CX0 P w K mg base N qual (defScope st) f cdv A outer s H E).nox (defBody st) t ∧ t { nx := fun _ H' => Q .non H', rt := Q } (start N vs) H) : FnOk P w K mg base CX0 (k + 1) f fd ps sp := by
  obtain ⟨oc, od, kV, doc, pm, an, cdv, ct, osl, rfl, lk, hcd⟩ := F.ex
  refine Xx lk hcd S len fun A outer s H vs Q E hr hsp => ?_
  obtain ⟨t, h, q⟩ := hbody cdv A outer s H vs Q E hr hsp
  exact ⟨t, h.nox, q⟩
theorem Fun.binds {x qual : Str} {st : Stmt} {f : Addr} {fd : FuncData} {ps : List Str} (F : Fun K x qual st f fd)
    (h : ∀ (kV doc pm : Value) (an : Option Addr) (cdv ct : Value) (us : List Value), us.length = ps.length → bindArgs (PySem.W.fnOf x qual (defArgs st) (defBody st) (defScope st) .none kV doc pm an cdv ct) ⟨us, []⟩ = pure (ps.zip us)) : Binds K fd ps [] := by
  obtain ⟨oc, od, kV, doc, pm, an, cdv, ct, osl, rfl, lk, hcd⟩ := F.ex
  exact .all (h kV doc pm an cdv ct)
theorem xK {x qual : Str} {st : Stmt} {f : Addr} {oc : Value} {od an : Option Addr} {osl : Array (Option Value)} {kV doc pm cdv ct : Value} (l : K.lookup f = some ⟨oc, od, .func (PySem.W.fnOf x qual (defArgs st) (defBody st) (defScope st) .none kV doc pm an cdv ct), osl⟩)
    (c : PySem.W.codeIn K cdv qual = true) (k : PySem.W.keepIn K (.ref f) = true) : Fun K x qual st f (PySem.W.fnOf x qual (defArgs st) (defBody st) (defScope st) .none kV doc pm an cdv ct) := ⟨⟨oc, od, kV, doc, pm, an, cdv, ct, osl, rfl, l, c⟩, k⟩
end
theorem qf {n : Nat} (h : n ≤ 1000) : n < sizeLine := Nat.lt_of_le_of_lt h (by decide)
section
variable {X : Cx}
theorem pv (i : Nat) {x : Str} {pos : Pos} (hN : X.N[i]? = some x := by rfl) (hv : Vis X.env.scope x := by first | exact Or.inl rfl | exact Or.inr (Or.inl rfl) | exact Or.inr (Or.inr rfl)) (hd : (x == ("__debug__" : Str)) = false := by decide)
    (hcd : (x == ("__classdict__" : Str)) = false := by decide) : PE X (.Name x pos) (kd i) := Us hN hv hd hcd
end
noncomputable def Same (H H' : Hp) : Prop := ∀ b o, H b = some o → H' b = some o
theorem Same.refl (H : Hp) : Same H H := fun _ _ h => h
theorem Same.trans {H H1 H2 : Hp} (a : Same H H1) (b : Same H1 H2) : Same H H2 := fun c o h => b c o (a c o h)
theorem Same.free {H H' : Hp} (e : Same H H') {l : Addr} (h : H' l = Option.none) : H l = Option.none := by
  cases q : H l with
  | none => rfl
  | some o =>
    rw [e l o q] at h
    cases h
theorem Same.seq {K : PySem.W.Frag} {H H' : Hp} {a : Addr} {xs : List V} (e : Same H H') (h : SqL K H a xs) : SqL K H' a xs := by
  rcases h with (h | ⟨o, h⟩) | h
  · exact .inl (.inl (e _ _ h))
  · exact .inl (.inr ⟨o, e _ _ h⟩)
  · exact .inr h
end L2
namespace L2
open PySem PySem.Spec PyProof.Rows
theorem Vs {prog : Program} {w : World} {A : Around} {R : Result → Shared → Prop} {s : Shared} {elt tg iter : Expr} {ifs : List Expr} {scope : Scope} {pos : Pos} {it acc : Value} {env : Env} (J : Nat → Shared → Prop)
    (turn : ∀ k s0, J k s0 → wpAny (model prog w) A (pyNext it) (fun r s1 => match r with
      | none => R (.ok .next) s1
      | some v => wpAny (model prog w) A (letOwnedTupleGo tg it v) (fun _ s2 => wpAny (model prog w) A (assign tg env v) (fun _ s3 =>
          wpAny (model prog w) A (forIn ifs true fun c r => if r = true then do let ok ← isTrue c env (eval c env); pure (ForInStep.yield ok) else pure (ForInStep.yield r)) (fun ok s4 =>
            if ok = true then wpAny (model prog w) A (eval elt env) (fun x s5 => wpAny (model prog w) A (call (.builtin "list.append") [acc, x]) (fun _ s6 => ∃ j, j < k ∧ J j s6) (fun _ _ => False) s5) (fun _ _ => False) s4
            else ∃ j, j < k ∧ J j s4) (fun _ _ => False) s3) (fun _ _ => False) s2) (fun _ _ => False) s1) (fun _ _ => False) s0)
    (k : Nat) (h : J k s) : codeAny (model prog w) A (.compLoop (.ListComp elt [⟨tg, iter, ifs, 0⟩] scope pos) 0 it acc env) R s := by
  refine codeAny_loop rfl J (fun k0 s0 hJ => ?_) k h
  show wpAny _ A ((compTurn (.ListComp elt [⟨tg, iter, ifs, 0⟩] scope pos) 0 it acc env).onRaise (fun x => do noteFrame x env; theTreesLotGoes x)) _ _ s0
  refine wpAny_noted ?_
  rw [compTurn_list]
  refine wpAny_bind (wpAny_standAt (wpAny_bind (wpAny_mono (turn k0 s0 hJ) (fun r s1 h1 => ?_) fun _ _ f => f.elim)))
  cases r with
  | none => exact wpAny_pure h1
  | some v =>
    refine wpAny_bind (wpAny_mono h1 (fun _ s2 h2 => wpAny_bind (wpAny_mono h2 (fun _ s3 h3 => wpAny_bind (wpAny_mono h3 (fun ok s4 h4 => ?_) fun _ _ f => f.elim)) fun _ _ f => f.elim)) fun _ _ f => f.elim)
    cases ok with
    | false => exact wpAny_pure ⟨rfl, h4⟩
    | true => exact wpAny_bind (wpAny_bind (wpAny_mono h4 (fun x s5 h5 => wpAny_bind (wpAny_mono h5 (fun _ s6 h6 => wpAny_pure (wpAny_pure ⟨rfl, h6⟩)) fun _ _ f => f.elim)) fun _ _ f => f.elim))
noncomputable def PTs (X : Cx) (ifs : List Expr) (t : TT) : Prop :=
  ∀ (pins : List (Addr × Obj)) (s : Shared) (σ : St) (H : Hp) (Q : Bool → Hp → Prop), Inv X pins σ H s → t σ H Q →
    wpAny (model X.prog X.w) X.A (forIn ifs true fun c r => if r = true then do let ok ← isTrue c X.env (eval c X.env); pure (ForInStep.yield ok) else pure (ForInStep.yield r)) (TP X pins σ Q) X.xe s
noncomputable def UR : TT := fun _ H Q => Q true H
theorem vB {X : Cx} : PTs X [] UR := fun _ _ _ H _ I h => wpAny_tests_nil ⟨H, I, h⟩
theorem Vt {X : Cx} {c : Expr} {t : TT} (h : PT X c t) : PTs X [c] t := fun pins s σ H Q I hw => wpAny_tests_one (h pins s σ H Q I hw)
noncomputable def zR (X : Cx) (N : List Str) (scope : Scope) (cl : List (Str × Addr)) (C : Addr) (s : Shared) (H : Hp) (fp : List Addr) : Cx where
  prog := X.prog
  w := X.w
  K := X.K
  mg := X.mg
  base := X.base
  A := X.A
  N := N
  s₀ := s
  H₀ := H
  env := compEnvC scope cl C X.env
  outer := X.stack
  stack := X.stack
  ex := fp
  fn := fun _ => false
  calm := X.calm
  pn := []
  xe := fun _ _ => False
noncomputable def xU (n : Nat) (js : List Nat) (σ : St) : St := List.replicate n none ++ js.map fun j => (σ[j]?).join
structure LcOk (X : Cx) (N : List Str) (n : Nat) (js : List Nat) (scope : Scope) (cl : List (Str × Addr)) : Prop where
  clos : closureFor scope X.env = pure cl
  nocell : ∀ y ∈ scope.names, y.2 ≠ .cell
  kind : scope.kind = .function
  names : ∀ y ∈ scope.names, y.2 = .local → scope.names.lookup y.1 = some .local
  cells : ∀ x c, cl.lookup x = some c → X.env.cells.lookup x = some c
  has : ∀ x, ((relabel scope X.env).names.lookup x = some .cell ∨ (relabel scope X.env).names.lookup x = some .free) → ∃ c, cl.lookup x = some c
  len : n + js.length = N.length
  free : ∀ (i : Nat) (x : Str), N[n + i]? = some x → ∃ j c, js[i]? = some j ∧ X.N[j]? = some x ∧ (X.env.scope.names.lookup x = some .cell ∨ X.env.scope.names.lookup x = some .free) ∧
    ((relabel scope X.env).names.lookup x = some .cell ∨ (relabel scope X.env).names.lookup x = some .free) ∧ cl.lookup x = some c
section
variable {X : Cx} {pins : List (Addr × Obj)} {σ : St} {H : Hp} {s : Shared} {N : List Str} {n : Nat} {js : List Nat} {scope : Scope} {cl : List (Str × Addr)}
theorem LcOk.ok (L : LcOk X N n js scope cl) (I : Inv X pins σ H s) {fp : List Addr} (hf : ∀ b ∈ fp, FpOk X pins H b) (hlt : ∀ b ∈ fp, b < s.heap.objs.size) {C : Addr} (hC : s.heap.objs.size ≤ C) : (zR X N scope cl C s H fp).Ok where
  mod := I.ok.mod
  kind := L.kind
  glob := I.ok.glob
  blt := I.ok.blt
  above := hC
  inj := fun x y c h1 h2 => I.ok.inj x y c (L.cells x c h1) (L.cells y c h2)
  has := fun x hx => L.has x hx
  cab := fun x c hx _ => by cases hx
  hd := I.ok.hd
  frames := I.ok.frames
  stk := .inl rfl
  exf := fun b hb => ⟨Nat.ne_of_lt (Nat.lt_of_lt_of_le (hlt b hb) hC), fun x c e => (hf b hb).2.2.2.2.1 x c (L.cells x c e)⟩
  bs := I.bs
  bsz := Nat.le_trans I.ok.bsz I.sz
  noex := fun b o e hb => by
    rcases (hf b hb).2.2.2.1 with z | z
    · exact I.ok.noex b o e z
    · exact absurd (Nat.lt_of_lt_of_le (Heap.lt_size (I.ok.bs b o e).1) z) (Nat.lt_irrefl _)
  exfs := fun b hb hz => by
    rcases List.mem_cons.mp (I.stkSub b hz) with z | z
    · exact (hf b hb).2.1 z
    · exact (hf b hb).2.2.1 z
  funs := I.stack
  frf := I.stkFree
theorem Yp {n : Nat} {js : List Nat} {σ : St} {i : Nat} {v : V} (h : (xU n js σ)[i]? = some (some v)) : ∃ k j, i = n + k ∧ js[k]? = some j ∧ σ[j]? = some (some v) := by
  unfold xU at h
  by_cases hi : i < n
  · rw [List.getElem?_append_left (by simpa using hi), List.getElem?_replicate] at h
    split at h <;> cases h
  · rw [List.getElem?_append_right (by simpa using hi), List.length_replicate, List.getElem?_map] at h
    cases e : js[i - n]? with
    | none => rw [e] at h; cases h
    | some j =>
      rw [e] at h
      refine ⟨i - n, j, by omega, e, ?_⟩
      cases e2 : σ[j]? with
      | none => rw [Option.map_some, e2] at h; cases h
      | some o =>
        rw [Option.map_some, e2] at h
        have h' : o = some v := Option.some.inj h
        rw [h']
theorem Inv.lc (L : LcOk X N n js scope cl) (I : Inv X pins σ H s) {fp : List Addr} (hf : ∀ b ∈ fp, FpOk X pins H b) (hlt : ∀ b ∈ fp, b < s.heap.objs.size) {D C : Addr} {h1 : Heap} {m : Str → Option Value} {tk : Nat}
    (hD : s.heap.objs.size ≤ D) (hC : s.heap.objs.size ≤ C) (hDC : D ≠ C) (hn : h1.Ns C m) (old : ∀ b o, s.heap.get? b = some o → h1.get? b = some o) {k : Nat} (hl : h1.get? D = some { cls := .type "list", data := .seq ([] : List Value).toArray k }) :
    Inv (zR X N scope cl C s H fp) [] (xU n js σ) (upd H D (.lst [])) { s with heap := h1, toks := tk } where
  ok := L.ok I hf hlt hC
  os := rfl
  bare := I.bare
  base := Un.laid old hD (I.hok.fresh hD)
  loc := by
    refine ⟨m, hn, fun i x v e1 e2 e3 => ?_⟩
    obtain ⟨k, j, rfl, ej, eσ⟩ := Yp e2
    obtain ⟨j', c, ej', eN, kx, kr, ec⟩ := L.free k x e1
    rw [ej] at ej'
    cases ej'
    obtain ⟨mx, hmx, hl'⟩ := I.loc
    obtain ⟨u, r, lk⟩ := hl' j x v eN eσ (kx.elim (fun z => .inr (.inl z)) fun z => .inr (.inr z))
    refine ⟨u, r, .inr ⟨kr, c, ec, ?_⟩⟩
    have hcx := L.cells x c ec
    rcases lk with ⟨z, _⟩ | ⟨_, c', e', hc'⟩
    · have z' : X.env.scope.names.lookup x = some .local := z
      rcases kx with y | y <;> rw [y] at z' <;> cases z'
    · rw [hcx] at e'
      cases e'
      obtain ⟨o, ho, hd⟩ := hc'
      exact ⟨o, old _ _ ho, hd⟩
  cell := fun x c e => by
    obtain ⟨v, o, ho, hd⟩ := I.cell x c (L.cells x c e)
    exact ⟨v, o, old _ _ ho, hd⟩
  free := by
    show upd H D (.lst []) C = none
    rw [za (Ne.symm hDC)]
    exact I.hok.fresh hC
  freeC := fun x c e => by
    obtain ⟨v, o, ho, hd⟩ := I.cell x c (L.cells x c e)
    rw [za (Nat.ne_of_lt (Nat.lt_of_lt_of_le (Heap.lt_size ho) hD))]
    exact I.freeC x c (L.cells x c e)
  pin := fun p hp => absurd (show p ∈ ([] : List (Addr × Obj)) from hp) (by simp)
  hok := I.hok.laid old hD ⟨Nat.zero_le _, [], k, .nil, hl⟩
  len := by
    show (xU n js σ).length = N.length
    unfold xU
    rw [List.length_append, List.length_replicate, List.length_map]
    exact L.len
theorem Inv.unlc {fp : List Addr} {C : Addr} {σ' : St} {H' : Hp} {s' : Shared} {h' : Heap} (I : Inv X pins σ H s) (hf : ∀ b ∈ fp, FpOk X pins H b) (hC : s.heap.objs.size ≤ C) (I' : Inv (zR X N scope cl C s H fp) [] σ' H' s') (hs : Heap.SameBut C s'.heap h') :
    Inv X pins σ H' { s' with heap := h' } := by
  have nC : ∀ b o, s.heap.get? b = some o → b ≠ C := fun b o e => Nat.ne_of_lt (Nat.lt_of_lt_of_le (Heap.lt_size e) hC)
  have hfree : H' C = none := I'.free
  have u := I'.base
  refine I.call' (ch := fp) (s' := { s' with heap := h' }) I'.os ⟨fun b o e n hb hx => ?_, fun b o e n hb hx => ?_, u.free, fun b o e hx => ?_, u.tups, u.frzs, u.tbls⟩ (fun b ob e => ?_) I'.bare fun b hb => ⟨(hf b hb).2.2.2.1, (hf b hb).2.1, (hf b hb).2.2.2.2.1, (hf b hb).2.2.2.2.2⟩
  · exact (hs.2 b (nC b o e)).trans (u.keep b o e n hb hx)
  · obtain ⟨sl, q⟩ := u.slot b o e n hb hx
    exact ⟨sl, (hs.2 b (nC b o e)).trans q⟩
  · obtain ⟨o', q⟩ := u.there b o e hx
    exact ⟨o', (hs.2 b (nC b o e)).trans q⟩
  · refine (I'.hok b ob e).stay (fun c w' hc q => (hs.2 c ?_).trans q) (fun _ q => q) fun _ _ q => q
    rintro rfl
    rcases hc with rfl | hc
    · rw [hfree] at e
      cases e
    · rw [hfree] at hc
      cases hc
noncomputable def tLc (wi : TI) (n : Nat) (js : List Nat) (g : TG) (tt : TT) (te : TE) : TE := fun σ H Q => wi σ H fun J H1 => ∀ D, H1 D = none → ∃ W : Nat → Nat → St → Hp → Prop, (∃ m, W 0 m (xU n js σ) (upd H1 D (.lst []))) ∧ ∀ i m σ' H', W i m σ' H' →
  (J.stop i H' ∧ Q (.ref D) H') ∨ (J.go i H' ∧ ∃ Nx : St → Hp → Prop, (∀ σ2 H2, Nx σ2 H2 → ∃ m', m' < m ∧ W (i + 1) m' σ2 H2) ∧
    ∀ x H2, J.yld i H' x H2 → g x σ' H2 fun σ3 H3 => tt σ3 H3 fun ok H4 => if ok = true then te σ3 H4 fun y H5 => ∃ ys, H5 D = some (.lst ys) ∧ ys.length < sizeLine ∧ Nx σ3 (upd H5 D (.lst (ys ++ [y]))) else Nx σ3 H4)
theorem jQ {elt tg iter : Expr} {ifs : List Expr} {pos : Pos} {g : TG} {tt : TT} {te : TE} {it : Addr} {fp : List Addr} {tn : Nat → Heap → Prop} {J : It} {Q : V → Hp → Prop} {E : Value → Shared → Prop} {RR : Value → Addr → Result → Shared → Prop}
    (L : LcOk X N n js scope cl) (hc : X.calm = true) (I : Inv X pins σ H s) (T : Turn X.prog X.w X.K tg J fp it tn) (t0 : tn 0 s.heap) (hf : ∀ b ∈ fp, FpOk X pins H b)
    (hg : ∀ C s0 H0 fp0, PG (zR X N scope cl C s0 H0 fp0) tg g) (ht : ∀ C s0 H0 fp0, PTs (zR X N scope cl C s0 H0 fp0) ifs tt) (he : ∀ C s0 H0 fp0, PE (zR X N scope cl C s0 H0 fp0) elt te)
    (hw : ∀ D, H D = none → ∃ W : Nat → Nat → St → Hp → Prop, (∃ m, W 0 m (xU n js σ) (upd H D (.lst []))) ∧ ∀ i m σ' H', W i m σ' H' →
      (J.stop i H' ∧ Q (.ref D) H') ∨ (J.go i H' ∧ ∃ Nx : St → Hp → Prop, (∀ σ2 H2, Nx σ2 H2 → ∃ m', m' < m ∧ W (i + 1) m' σ2 H2) ∧
        ∀ x H2, J.yld i H' x H2 → g x σ' H2 fun σ3 H3 => tt σ3 H3 fun ok H4 => if ok = true then te σ3 H4 fun y H5 => ∃ ys, H5 D = some (.lst ys) ∧ ys.length < sizeLine ∧ Nx σ3 (upd H5 D (.lst (ys ++ [y]))) else Nx σ3 H4))
    (fin : ∀ D C σ' H' s', s.heap.objs.size ≤ C → Inv (zR X N scope cl C s H fp) [] σ' H' s' → Q (.ref D) H' → RR (.ref D) C (.ok .next) s') :
    wpAny (model X.prog X.w) X.A (newList []) (fun acc s1 => wpAny (model X.prog X.w) X.A (newFunctionEnv scope X.env.globals cl [] X.env.qual none .none (some X.env)) (fun cenv s2 =>
      codeAny (model X.prog X.w) X.A (.compStart (.ListComp elt [⟨tg, iter, ifs, 0⟩] scope pos) 0 (.ref it) acc { cenv with scope := relabel scope X.env }) (RR acc cenv.locals) s2) E s1) E s := by
  refine wpAny_newObj_type (wpAny_newFunctionEnv L.nocell (by intro y hy; simp at hy) (fun h1 hn1 hs1 => ?_) L.kind)
  dsimp only at hn1 hs1 ⊢
  generalize hG : s.heap.push { cls := .type "list", dict := none, data := .seq ([] : List Value).toArray } = G at hn1 hs1 ⊢
  have eC : G.objs.size = s.heap.objs.size + 1 := by rw [← hG, Heap.size_push]
  have hC : s.heap.objs.size ≤ G.objs.size := by rw [eC]; exact Nat.le_succ _
  have hDC : s.heap.objs.size ≠ G.objs.size := by rw [eC]; exact Nat.ne_of_lt (Nat.lt_succ_self _)
  have hlt : ∀ b ∈ fp, b < s.heap.objs.size := fun b hb => by
    obtain ⟨o, e, _⟩ := T.obj 0 _ t0 b hb
    exact Heap.lt_size e
  have old : ∀ b o, s.heap.get? b = some o → h1.get? b = some o := fun b o e => by
    have hb := Heap.lt_size e
    exact hs1.extBut b o (Nat.ne_of_lt (Nat.lt_of_lt_of_le hb hC)) (Heap.get?_push_of_some _ (hG ▸ Heap.get?_push_of_some _ e))
  have hl : h1.get? s.heap.objs.size = some { cls := .type "list", data := .seq ([] : List Value).toArray 0 } := hs1.extBut _ _ hDC (Heap.get?_push_of_some _ (hG ▸ Heap.get?_push_size _ rfl))
  have I1 : ∀ tk, Inv (zR X N scope cl G.objs.size s H fp) [] (xU n js σ) (upd H s.heap.objs.size (.lst [])) { s with heap := h1, toks := tk } := fun tk => Inv.lc L I hf hlt (Nat.le_refl _) hC hDC hn1 old hl
  have t1 : tn 0 h1 := T.keep _ _ _ t0 fun b _ o e => old b o e
  obtain ⟨W, ⟨m0, w0⟩, step⟩ := hw s.heap.objs.size (I.hok.fresh (Nat.le_refl _))
  have fr1 : ∀ b ∈ fp, upd H s.heap.objs.size (.lst []) b = none := fun b hb => by
    rw [za (Nat.ne_of_lt (hlt b hb))]
    exact (hf b hb).1
  have fps : ∀ {H' : Hp}, (∀ b ∈ fp, H' b = none) → ∀ b ∈ fp, FpOk (zR X N scope cl G.objs.size s H fp) [] H' b := fun {H'} hn b hb => by
    refine ⟨hn b hb, Nat.ne_of_lt (Nat.lt_of_lt_of_le (hlt b hb) hC), fun hz => ?_, .inl hb, fun x c e => (hf b hb).2.2.2.2.1 x c (L.cells x c e), fun p hp => absurd (show p ∈ ([] : List (Addr × Obj)) from hp) (by simp)⟩
    rcases List.mem_cons.mp (I.stkSub b hz) with z | z
    · exact (hf b hb).2.1 z
    · exact (hf b hb).2.2.1 z
  have loop : ∀ s0 : Shared, s0 = { s with heap := h1, toks := s.toks + ([] : List (Str × Value)).length } →
      codeAny (model X.prog X.w) X.A (.compLoop (.ListComp elt [⟨tg, iter, ifs, 0⟩] scope pos) 0 (.ref it) (.ref s.heap.objs.size) (compEnvC scope cl G.objs.size X.env)) (RR (.ref s.heap.objs.size) G.objs.size) s0 := by
    rintro s0 rfl
    refine Vs (fun k s' => ∃ i σ' H', Inv (zR X N scope cl G.objs.size s H fp) [] σ' H' s' ∧ tn i s'.heap ∧ (∀ b ∈ fp, H' b = none) ∧ W i k σ' H') ?_ m0 ⟨0, _, _, I1 _, t1, fr1, w0⟩
    rintro k s3 ⟨i, σ3, H3, I3, t3, fr3, w3⟩
    rcases step i k σ3 H3 w3 with ⟨stop, qn⟩ | ⟨go, Nx, hN, body⟩
    · refine thn (T.done (zR X N scope cl G.objs.size s H fp) rfl rfl rfl hc i [] s3 σ3 H3 _ I3 (fps fr3) t3 stop) fun r s4 ⟨hr, I4⟩ => ?_
      subst hr
      exact fin _ _ σ3 H3 s4 hC I4 qn
    · refine thn (T.item (zR X N scope cl G.objs.size s H fp) rfl rfl rfl hc i [] s3 σ3 H3 _ I3 (fps fr3) t3 go) fun r s4 ⟨u, hr, h4⟩ => ?_
      subst hr
      refine thn h4 fun _ s5 ⟨x, H5, I5, r5, y5, t5, fr5⟩ => ?_
      have I5' := I5.pinned (fps fr5) (T.obj _ _ t5)
      refine thn (hg _ _ _ _ _ s5 σ3 H5 x u _ I5' r5 (body x H5 y5)) fun _ s6 ⟨σ6, H6, I6, q6⟩ => ?_
      have again : ∀ {σ7 : St} {H7 : Hp} {s7 : Shared}, Inv (zR X N scope cl G.objs.size s H fp) ([] ++ x8 fp s5.heap) σ7 H7 s7 → Nx σ7 H7 →
          ∃ j, j < k ∧ ∃ i σ' H', Inv (zR X N scope cl G.objs.size s H fp) [] σ' H' s7 ∧ tn i s7.heap ∧ (∀ b ∈ fp, H' b = none) ∧ W i j σ' H' := fun {σ7 H7 s7} I7 n7 => by
        obtain ⟨m', hm, w7⟩ := hN σ7 H7 n7
        refine ⟨m', hm, i + 1, σ7, H7, I7.unpinned, T.keep _ _ _ t5 fun b hb o e => (I7.pin (b, o) (List.mem_append_right _ (List.mem_append_right _ (yY hb e)))).1, fun b hb => ?_, w7⟩
        obtain ⟨o, e, _⟩ := T.obj _ _ t5 b hb
        exact (I7.pin (b, o) (List.mem_append_right _ (List.mem_append_right _ (yY hb e)))).2.1
      refine thn (ht _ _ _ _ _ s6 σ6 H6 _ I6 q6) fun ok s7 ⟨H7, I7, q7⟩ => ?_
      cases ok with
      | false =>
        rw [if_neg (by decide)] at q7 ⊢
        exact again I7 q7
      | true =>
        rw [if_pos rfl] at q7 ⊢
        refine thn (he _ _ _ _ _ s7 σ6 H7 _ I7 q7) fun v s8 ⟨y, H8, I8, r8, ys, e8, z8, q8⟩ => ?_
        refine thn (yb _ s8 σ6 H8 (.ref s.heap.objs.size) [y] (.ref s.heap.objs.size) [v] (fun _ H9 => Nx σ6 H9) I8 rfl (.cons r8 .nil) ⟨_, ys, y, rfl, rfl, e8, z8, q8⟩) fun _ s9 ⟨_, H9, I9, _, q9⟩ => ?_
        exact again I9 q9
  exact codeAny_compStart_list (loop _ rfl) (T.self X.A 0 _ _ _ t1 (loop _ rfl))
theorem qD {elt tg iter : Expr} {ifs : List Expr} {pos : Pos} {wi : TI} {g : TG} {tt : TT} {te : TE} (L : LcOk X N n js scope cl) (hc : X.calm = true) (hi : PI X tg iter wi)
    (hg : ∀ C s0 H0 fp0, PG (zR X N scope cl C s0 H0 fp0) tg g) (ht : ∀ C s0 H0 fp0, PTs (zR X N scope cl C s0 H0 fp0) ifs tt) (he : ∀ C s0 H0 fp0, PE (zR X N scope cl C s0 H0 fp0) elt te)
    (hs : ∀ x, foldedSetIterable iter X.env x = pure x := by intro _; rfl) : PE X (.ListComp elt [⟨tg, iter, ifs, 0⟩] scope pos) (tLc wi n js g tt te) := by
  intro pins s σ H Q I h
  rw [eval_ListComp]
  refine wpAny_comprehension_free (use := none) rfl hs L.clos L.kind L.names (thn (hi pins s σ H _ I h) fun v s1 h1 => thn h1 fun itv s2 h2 => ?_)
  obtain ⟨it, fp, tn, J, H2, e, I2, T, t2, f2, hw⟩ := h2
  subst e
  refine jQ (RR := fun acc C => compPost (model X.prog X.w) X.A X.xe none (EP X pins σ Q) acc C) L hc I2 T t2 f2 hg ht he hw ?_
  intro D C σ' H' s' hC I' q
  obtain ⟨m, hn, _⟩ := I'.loc
  exact ⟨m, hn, fun h' hs' => ⟨.ref D, H', I2.unlc f2 hC I' hs', rfl, q⟩⟩
theorem Yq {i : Nat} {x : Str} {elt tg iter : Expr} {ifs : List Expr} {pos pos' spos : Pos} {wi : TI} {g : TG} {tt : TT} {te : TE} (hN : X.N.Nodup) (hx : X.N[i]? = some x) (hk : X.env.scope.names.lookup x = some .local)
    (L : LcOk X N n js scope cl) (hc : X.calm = true) (hi : PI X tg iter wi)
    (hg : ∀ C s0 H0 fp0, PG (zR X N scope cl C s0 H0 fp0) tg g) (ht : ∀ C s0 H0 fp0, PTs (zR X N scope cl C s0 H0 fp0) ifs tt) (he : ∀ C s0 H0 fp0, PE (zR X N scope cl C s0 H0 fp0) elt te)
    (hsw : swapsWith (.ListComp elt [⟨tg, iter, ifs, 0⟩] scope pos) (some (.Name x pos')) spos.line X.env = pure true := by rfl)
    (hs : ∀ x, foldedSetIterable iter X.env x = pure x := by intro _; rfl) : PS X (.Assign [.Name x pos'] (.ListComp elt [⟨tg, iter, ifs, 0⟩] scope pos) spos) (qL (tLc wi n js g tt te) (vz i)) := by
  intro pins s σ H Dn I h
  rw [exec_Assign_Name_used _ _ _ _ hsw]
  refine wpAny_bind (wpAny_standAt (wpAny_bind ?_))
  show wpAny _ X.A (do let _ ← comprehension (.ListComp elt [⟨tg, iter, ifs, 0⟩] scope pos) scope X.env _ (newList []) false (eval iter X.env) (some (assign (.Name x pos') X.env))) _ _ s
  refine wpAny_bind (thn (wpAny_comprehension_free (use := some (assign (.Name x pos') X.env)) (Q := fun _ s' => SP X pins Dn .next s') rfl hs L.clos L.kind L.names (thn (hi pins s σ H _ I h) fun v s1 h1 => thn h1 fun itv s2 h2 => ?_)) fun _ s' hq => wpAny_pure (wpAny_pure hq))
  obtain ⟨it, fp, tn, J, H2, e, I2, T, t2, f2, hw⟩ := h2
  subst e
  refine jQ (Q := fun x H1 => vz i x σ H1 Dn.nx) (RR := fun acc C => compPost (model X.prog X.w) X.A X.xe (some (assign (.Name x pos') X.env)) (fun _ s' => SP X pins Dn .next s') acc C) L hc I2 T t2 f2 hg ht he hw ?_
  intro D C σ' H' s' hC I' q
  obtain ⟨m, hn, _⟩ := I'.loc
  have I3 : Inv X pins σ H' s' := I2.unlc (h' := s'.heap) f2 hC I' (.refl ..)
  show wpAny _ X.A (assign (.Name x pos') X.env (.ref D)) _ X.xe s'
  refine wpAny_assign_Name (u5 (v := .ref D) I3 hN hx (.inl hk) rfl (fun s4 I4 hb => ?_) (.inr hk))
  obtain ⟨a, hsa, ha⟩ := hb
  have bl : ∀ b o, s2.heap.get? b = some o → b ≠ C := fun b o e => Nat.ne_of_lt (Nat.lt_of_lt_of_le (Heap.lt_size e) hC)
  have hL : C ≠ X.env.locals := fun z => absurd (Nat.lt_of_lt_of_le I2.lt (z ▸ hC)) (Nat.lt_irrefl _)
  have hcl : ∀ y c, X.env.cells.lookup y = some c → c ≠ C := fun y c e => by
    obtain ⟨v, o, ho, _⟩ := I2.cell y c e
    exact bl c o ho
  have hCa : C ≠ a := by
    rcases ha with rfl | ha
    · exact hL
    · exact Ne.symm (hcl _ _ ha)
  exact ⟨m, hn.sameBut hsa hCa, fun h' hs' => ⟨_, H', I4.turned (h' := h') (t' := s4.toks) (it := C) (fun b o hb e => (hs'.2 b hb).trans e) I'.free hL (.inr (Nat.le_trans I2.sz hC)) hcl (fun p hp => bl _ _ (I2.pin p hp).1), q⟩⟩
end
end L2
namespace L2
open PySem PySem.Spec PyProof.Rows
structure Cal (P : Program) (w : World) (K : PySem.W.Frag) (mg : Str → Option Value) (base : Heap) (k : Nat) (x : Str) (dvs : List V) (sp : Sp) : Prop where
  ex : ∃ (f : Addr) (fd : FuncData) (ps : List Str) (ds : List Value), FnOk P w K mg base CX0 k f fd ps sp ∧ mg x = some (.ref f) ∧ PySem.W.keepIn K (.ref f) = true ∧ Binds K fd ps ds ∧ Vals dvs ds
section
variable {X : Cx} {k : Nat} {sp : Sp} {dvs : List V} {x : Str} {p pos : Pos} {e : Expr} {es : List Expr} {t : TA}
theorem zH (c : Cal X.prog X.w X.K X.mg X.base k x dvs sp) (hr : Room k X.A) (hg : Gl X x) (ha : PA X (e :: es) t) (hdb : (x == ("__debug__" : Str)) = false := by decide)
    (he : starEach (e :: es) X.env = (false, eval e X.env) :: starEach es X.env := by rfl) (hpl : (backTo pos (starEach es X.env)).any (·.1) = false := by rfl) : PE X (.Call (.Name x p) (e :: es) [] pos) (qB sp dvs E0 t) := by
  obtain ⟨f, fd, ps, ds, F, hm, hk, hb, hd⟩ := c.ex
  exact Vl F hr hg hm hk hb hd qC ha hdb he hpl
end
section
variable {X : Cx}
theorem jD : zP X (.builtin "isinstance") (fun xs H Q => ∃ x n t b, xs = [x, .ty n] ∧ TyOf X.K H x t ∧ PySem.W.kitOne X.K t (.type n) = some b ∧ Q (.bl b) H) := by
  intro pins s σ H xs us Q I r h
  obtain ⟨x, n, t, b, rfl, ty, e, q⟩ := h
  obtain ⟨u, c, rfl, ru, rc⟩ := r.two
  cases rc
  exact Zm I ru ty e fun tk => ⟨.bl b, H, I.tok tk, rfl, q⟩
noncomputable def QZ (K : PySem.W.Frag) (H : Hp) (x : V) : Prop := ∃ n, TyOf K H x (.type n) ∧ (n = "NoneType" ∨ n = "str" ∨ n = "list" ∨ n = "tuple" ∨ n = "dict")
noncomputable def Th (K : PySem.W.Frag) (H : Hp) (x : V) : Option Int → Prop
  | some i => x = .int i
  | none => (∃ b, x = .bl b) ∨ QZ K H x
end
mutual
noncomputable def Rep (K : PySem.W.Frag) (H : Hp) : PyData → V → Prop
  | .none, x => x = .non
  | .bool b, x => x = .bl b
  | .int i, x => x = .int i
  | .str z, x => x = .str z
  | .list ds, x => ∃ a xs, x = .ref a ∧ SqL K H a xs ∧ Reps K H ds xs
  | .tuple ds, x => ∃ a xs, x = .ref a ∧ SqT K H a xs ∧ Reps K H ds xs
  | .dict _, _ => False
noncomputable def Reps (K : PySem.W.Frag) (H : Hp) : List PyData → List V → Prop
  | [], xs => xs = []
  | d :: ds, xs => ∃ x r, xs = x :: r ∧ Rep K H d x ∧ Reps K H ds r
end
theorem SqL.same {K : PySem.W.Frag} {H H' : Hp} {a : Addr} {xs : List V} (e : Same H H') (h : SqL K H a xs) : SqL K H' a xs := e.seq h
theorem SqT.same {K : PySem.W.Frag} {H H' : Hp} {a : Addr} {xs : List V} (e : Same H H') (h : SqT K H a xs) : SqT K H' a xs := by
  rcases h with (h | ⟨o, h⟩) | h
  · exact .inl (.inl (e _ _ h))
  · exact .inl (.inr ⟨o, e _ _ h⟩)
  · exact .inr h
mutual
theorem Rep.same {K : PySem.W.Frag} {H H' : Hp} (e : Same H H') : ∀ (d : PyData) (x : V), Rep K H d x → Rep K H' d x
  | .none, _, h => h
  | .bool _, _, h => h
  | .int _, _, h => h
  | .str _, _, h => h
  | .list ds, x, h => by
    obtain ⟨a, xs, e1, h1, h2⟩ := h
    exact ⟨a, xs, e1, h1.same e, Reps.same e ds xs h2⟩
  | .tuple ds, x, h => by
    obtain ⟨a, xs, e1, h1, h2⟩ := h
    exact ⟨a, xs, e1, h1.same e, Reps.same e ds xs h2⟩
  | .dict _, _, h => h
theorem Reps.same {K : PySem.W.Frag} {H H' : Hp} (e : Same H H') : ∀ (ds : List PyData) (xs : List V), Reps K H ds xs → Reps K H' ds xs
  | [], _, h => h
  | d :: ds, xs, h => by
    obtain ⟨x, r, e1, h1, h2⟩ := h
    exact ⟨x, r, e1, Rep.same e d x h1, Reps.same e ds r h2⟩
end
theorem Reps.length {K : PySem.W.Frag} {H : Hp} : ∀ {ds : List PyData} {xs : List V}, Reps K H ds xs → ds.length = xs.length
  | [], xs, h => by
    cases (show xs = [] from h)
    rfl
  | d :: ds, _, h => by
    obtain ⟨x, r, rfl, _, h2⟩ := h
    rw [List.length_cons, List.length_cons, h2.length]
theorem Reps.get {K : PySem.W.Frag} {H : Hp} : ∀ {ds : List PyData} {xs : List V} (i : Nat) {x : V}, Reps K H ds xs → xs[i]? = some x → ∃ d, ds[i]? = some d ∧ Rep K H d x
  | [], _, i, x, h, e => by
    rw [show _ = _ from h] at e
    cases e
  | d :: ds, _, i, x, h, e => by
    obtain ⟨y, r, rfl, h1, h2⟩ := h
    cases i with
    | zero =>
      cases e
      exact ⟨d, rfl, h1⟩
    | succ i =>
      obtain ⟨d', e', h'⟩ := h2.get i (x := x) (by simpa using e)
      exact ⟨d', by simpa using e', h'⟩
theorem Reps.snoc {K : PySem.W.Frag} {H : Hp} : ∀ {ds : List PyData} {xs : List V} {d : PyData} {x : V}, Reps K H ds xs → Rep K H d x → Reps K H (ds ++ [d]) (xs ++ [x])
  | [], _, d, x, h, h' => by
    rw [show _ = _ from h]
    exact ⟨x, [], rfl, h', rfl⟩
  | d0 :: ds, _, d, x, h, h' => by
    obtain ⟨y, r, rfl, h1, h2⟩ := h
    exact ⟨y, r ++ [x], rfl, h1, h2.snoc h'⟩
mutual
theorem Rep.reads {X : Cx} {pins : List (Addr × Obj)} {σ : St} {H : Hp} {s : Shared} (I : Inv X pins σ H s) : ∀ (d : PyData) (x : V) (u : Value), Rep X.K H d x → RelV x u → ∃ as, Reads s.heap u d as
  | .none, x, u, h, r => by
    cases (show x = V.non from h)
    cases r
    exact ⟨_, .none⟩
  | .bool b, x, u, h, r => by
    cases (show x = V.bl b from h)
    cases r
    exact ⟨_, .bool b⟩
  | .int i, x, u, h, r => by
    cases (show x = V.int i from h)
    obtain ⟨t, rfl⟩ := r
    exact ⟨_, .int i t⟩
  | .str z, x, u, h, r => by
    cases (show x = V.str z from h)
    obtain ⟨t, rfl⟩ := r
    exact ⟨_, .str z t⟩
  | .list ds, x, u, h, r => by
    obtain ⟨a, xs, rfl, h1, h2⟩ := h
    cases r
    obtain ⟨its, rv, ⟨o, n, e, c, _, dt⟩, _⟩ := I.list h1
    obtain ⟨as, q⟩ := Reps.reads I ds xs its h2 rv
    exact ⟨_, .list e c dt (by simpa using q)⟩
  | .tuple ds, x, u, h, r => by
    obtain ⟨a, xs, rfl, h1, h2⟩ := h
    cases r
    obtain ⟨its, rv, ⟨o, e, c, n, dt⟩, _⟩ := I.tuple h1
    obtain ⟨as, q⟩ := Reps.reads I ds xs its h2 rv
    exact ⟨_, .tuple e c dt (by simpa using q)⟩
  | .dict _, _, _, h, _ => h.elim
theorem Reps.reads {X : Cx} {pins : List (Addr × Obj)} {σ : St} {H : Hp} {s : Shared} (I : Inv X pins σ H s) : ∀ (ds : List PyData) (xs : List V) (us : List Value), Reps X.K H ds xs → Vals xs us → ∃ as, ReadsAll s.heap us ds as
  | [], xs, us, h, r => by
    cases (show xs = [] from h)
    cases r
    exact ⟨_, .nil⟩
  | d :: ds, xs, us, h, r => by
    obtain ⟨x, zO, rfl, h1, h2⟩ := h
    cases r with
    | cons r1 r2 =>
      obtain ⟨as, q⟩ := Rep.reads I d x _ h1 r1
      obtain ⟨bs, q2⟩ := Reps.reads I ds zO _ h2 r2
      exact ⟨_, .cons q q2⟩
end
section
variable {X : Cx}
noncomputable def Yr (K : PySem.W.Frag) : R2 := fun x y H Q => ∃ d e, Rep K H d x ∧ Rep K H e y ∧ SeqAt.shaped d = true ∧ SeqAt.shaped e = true ∧ Q (.bl (PyData.eqv d e)) H
noncomputable def Ys (K : PySem.W.Frag) : R2 := fun x y H Q => ∃ d e, Rep K H d x ∧ Rep K H e y ∧ SeqAt.shaped d = true ∧ SeqAt.shaped e = true ∧ Q (.bl (!PyData.eqv d e)) H
theorem US (hu : X.A.units + 64 < cLine) : OpR X (compareOp .Eq) (Yr X.K) := by
  intro pins s σ H x y v u Q I rx ry h
  obtain ⟨d, e, h1, h2, s1, s2, q⟩ := h
  obtain ⟨as, r1⟩ := Rep.reads I d x v h1 rx
  obtain ⟨bs, r2⟩ := Rep.reads I e y u h2 ry
  exact eq_dataH r1 r2 s1 s2 hu ⟨.bl _, H, I, rfl, q⟩
theorem UT (hu : X.A.units + 64 < cLine) : OpR X (compareOp .NotEq) (Ys X.K) := by
  intro pins s σ H x y v u Q I rx ry h
  obtain ⟨d, e, h1, h2, s1, s2, q⟩ := h
  obtain ⟨as, r1⟩ := Rep.reads I d x v h1 rx
  obtain ⟨bs, r2⟩ := Rep.reads I e y u h2 ry
  exact ne_dataH r1 r2 s1 s2 hu ⟨.bl _, H, I, rfl, q⟩
end
end L2
namespace L2
open PySem PySem.Spec PyProof.Rows
noncomputable def qT : Expr → Bool
  | .Starred .. => false
  | _ => true
theorem qu {e : Expr} {es : List Expr} {env : Env} (h : qT e = true) : starEach (e :: es) env = (false, eval e env) :: starEach es env := by
  cases e <;> first | rfl | cases h
structure QA (X : Cx) (es : List Expr) (t : TA) : Prop where
  pa : PA X es t
theorem qn {X : Cx} : QA X [] xA := ⟨UK⟩
theorem qc {X : Cx} {e : Expr} {es : List Expr} {te : TE} {t : TA} (ha : PE X e te) (hr : QA X es t) (h : qT e = true := by rfl) : QA X (e :: es) (yZ te t) := ⟨Vk ha hr.pa (qu h)⟩
theorem yf {X : Cx} {es : List Expr} {t : TA} {pos : Pos} (h : QA X es t) : PE X (.List es pos) (qN t) := Zo h.pa
theorem zS {X : Cx} {es : List Expr} {t : TA} {pos : Pos} {k : Nat} (h : QA X es t) : PE X (.Tuple es k pos) (kq t) := Zn h.pa
noncomputable def Sm (a : Int) : Prop := -1000000000000 ≤ a ∧ a ≤ 1000000000000
theorem Sm.mulL {a b : Int} (h : Sm a) : uG a b := .inl ⟨Int.lt_of_lt_of_le (by decide) h.1, Int.lt_of_le_of_lt h.2 (by decide)⟩
theorem Sm.mulR {a b : Int} (h : Sm b) : uG a b := .inr ⟨Int.lt_of_lt_of_le (by decide) h.1, Int.lt_of_le_of_lt h.2 (by decide)⟩
theorem Vu {a b : Int} (h1 : -1000000000000 ≤ a) (h2 : a ≤ 1000000000000) : uG a b := Sm.mulL ⟨h1, h2⟩
theorem Yt {a b : Int} (h1 : -1000000000000 ≤ b) (h2 : b ≤ 1000000000000) : uG a b := Sm.mulR ⟨h1, h2⟩
theorem zX {H : Hp} {p : Addr} {o : HO} (hp : H p = none) : Same H (upd H p o) := fun b u e => by
  rw [za (zz e hp)]
  exact e
theorem xi {H H' : Hp} {r : Addr} {o : HO} (hs : Same H H') (hr : H r = none) : Same H (upd H' r o) := fun b u e => by
  rw [za (zz e hr)]
  exact hs b u e
theorem vC {α : Type} {xs : List α} {i : Int} {R : α → Prop} (h0 : 0 ≤ i) (h1 : i < (xs.length : Int)) (h : ∀ v ∈ xs, R v) : ∃ v, atI xs i = some v ∧ R v := by
  obtain ⟨j, hj⟩ : ∃ j : Nat, i = (j : Int) := ⟨_, (Int.toNat_of_nonneg h0).symm⟩
  subst hj
  have hl : j < xs.length := by omega
  exact ⟨xs[j], y8 (List.getElem?_eq_getElem hl), h _ (List.getElem_mem hl)⟩
noncomputable def uf (n : Nat) (g : TG) (tb : TS) (D : Ends) (σ : St) (H : Hp) : Prop := ∃ W : Nat → Nat → St → Hp → Prop, (∃ m, W 0 m σ H) ∧ ∀ i m σ H, W i m σ H →
  ((Itr 0 n).stop i H ∧ D.nx σ H) ∨ ((Itr 0 n).go i H ∧ ∃ N : St → Hp → Prop, (∀ σ' H', N σ' H' → ∃ m', m' < m ∧ W (i + 1) m' σ' H') ∧ ∀ x H', (Itr 0 n).yld i H x H' → g x σ H' fun σ2 H2 => tb { D with nx := N, ct := N, bk := D.nx } σ2 H2)
theorem uf.by {n : Nat} {g : TG} {tb : TS} {D : Ends} {σ : St} {H : Hp} (Pv : Nat → St → Hp → Prop) (h0 : Pv 0 σ H)
    (hs : ∀ i σ H, i < n → Pv i σ H → g (.int i) σ H fun σ2 H2 => tb { D with nx := Pv (i + 1), ct := Pv (i + 1), bk := D.nx } σ2 H2) (hd : ∀ σ H, Pv n σ H → D.nx σ H) : uf n g tb D σ H :=
  Zf (lo := 0) (n := n) Pv h0 (fun i σ H hi p => by rw [Int.zero_add]; exact hs i σ H hi p) hd
theorem uf.run {n : Nat} {g : TG} {tb : TS} {D : Ends} {σ : St} {H : Hp} (Pv : Nat → St → Hp → Prop) (h0 : Pv 0 σ H)
    (hs : ∀ i σ H, i < n → Pv i σ H → ∀ R : St → Hp → Prop, (∀ σ' H', Pv (i + 1) σ' H' → R σ' H') → g (.int i) σ H fun σ2 H2 => tb { D with nx := R, ct := R, bk := D.nx } σ2 H2) (hd : ∀ σ H, Pv n σ H → D.nx σ H) : uf n g tb D σ H :=
  uf.by Pv h0 (fun i σ H hi p => hs i σ H hi p _ fun _ _ z => z) hd
noncomputable def ug (K : PySem.W.Frag) (a : Addr) (g : TG) (tb : TS) (D : Ends) (σ : St) (H : Hp) : Prop := ∃ W : Nat → Nat → St → Hp → Prop, (∃ m, W 0 m σ H) ∧ ∀ i m σ H, W i m σ H →
  ((Itl K a).stop i H ∧ D.nx σ H) ∨ ((Itl K a).go i H ∧ ∃ N : St → Hp → Prop, (∀ σ' H', N σ' H' → ∃ m', m' < m ∧ W (i + 1) m' σ' H') ∧ ∀ x H', (Itl K a).yld i H x H' → g x σ H' fun σ2 H2 => tb { D with nx := N, ct := N, bk := D.nx } σ2 H2)
theorem ug.by {K : PySem.W.Frag} {a : Addr} {xs : List V} {g : TG} {tb : TS} {D : Ends} {σ : St} {H : Hp} (Pv : Nat → St → Hp → Prop) (h0 : Pv 0 σ H) (hl : ∀ i σ H, i ≤ xs.length → Pv i σ H → SqL K H a xs)
    (hs : ∀ i x σ H, xs[i]? = some x → Pv i σ H → g x σ H fun σ2 H2 => tb { D with nx := Pv (i + 1), ct := Pv (i + 1), bk := D.nx } σ2 H2) (hd : ∀ σ H, Pv xs.length σ H → D.nx σ H) : ug K a g tb D σ H :=
  Yb Pv h0 hl hs hd
theorem ug.run {K : PySem.W.Frag} {a : Addr} {xs : List V} {g : TG} {tb : TS} {D : Ends} {σ : St} {H : Hp} (Pv : Nat → St → Hp → Prop) (h0 : Pv 0 σ H) (hl : ∀ i σ H, i ≤ xs.length → Pv i σ H → SqL K H a xs)
    (hs : ∀ i x σ H, xs[i]? = some x → Pv i σ H → ∀ R : St → Hp → Prop, (∀ σ' H', Pv (i + 1) σ' H' → R σ' H') → g x σ H fun σ2 H2 => tb { D with nx := R, ct := R, bk := D.nx } σ2 H2) (hd : ∀ σ H, Pv xs.length σ H → D.nx σ H) : ug K a g tb D σ H :=
  ug.by Pv h0 hl (fun i x σ H hi p => hs i x σ H hi p _ fun _ _ z => z) hd
structure FunD (K : PySem.W.Frag) (x qual : Str) (st : Stmt) (ds : List Value) (f : Addr) (fd : FuncData) : Prop where
  ex : ∃ (oc : Value) (od : Option Addr) (kV doc pm : Value) (an : Option Addr) (cdv ct : Value) (osl : Array (Option Value)) (T : Addr) (oT : Obj) (n : Nat),
    fd = PySem.W.fnOf x qual (defArgs st) (defBody st) (defScope st) (.ref T) kV doc pm an cdv ct ∧ K.lookup f = some ⟨oc, od, .func fd, osl⟩ ∧ PySem.W.codeIn K cdv qual = true ∧ K.lookup T = some oT ∧ oT.data = .seq ds.toArray n
  kp : PySem.W.keepIn K (.ref f) = true
section
variable {P : Program} {w : World} {K : PySem.W.Frag} {mg : Str → Option Value} {base : Heap}
theorem FunD.ok {x qual : Str} {st : Stmt} {ds : List Value} {f : Addr} {fd : FuncData} {N ps : List Str} {k : Nat} {sp : Sp} (F : FunD K x qual st ds f fd) (S : FnScope N ps (defScope st)) (len : ∀ vs H Q E, sp vs H Q E → vs.length = ps.length)
    (hbody : ∀ (cdv : Value) (A : Around) (outer : List Env) (s : Shared) (H : Hp) (vs : List V) (Q : VK) (E : XK), Room k (A.deeper (envOfC qual (defScope st) s.heap.objs.size f cdv)) → sp vs H Q E →
      ∃ t, PSs (xh CX0 P w K mg base N qual (defScope st) f cdv A outer s H E).nox (defBody st) t ∧ t { nx := fun _ H' => Q .non H', rt := Q } (L2.start N vs) H) : FnOk P w K mg base CX0 (k + 1) f fd ps sp := by
  obtain ⟨oc, od, kV, doc, pm, an, cdv, ct, osl, T, oT, n, rfl, lk, hcd, _, _⟩ := F.ex
  refine Xx lk hcd S len fun A outer s H vs Q E hr hsp => ?_
  obtain ⟨t, h, q⟩ := hbody cdv A outer s H vs Q E hr hsp
  exact ⟨t, h.nox, q⟩
theorem FunD.binds {x qual : Str} {st : Stmt} {ds es : List Value} {f : Addr} {fd : FuncData} {ps : List Str} (F : FunD K x qual st ds f fd)
    (h : ∀ (T : Addr) (kV doc pm : Value) (an : Option Addr) (cdv ct : Value) (us : List Value), (us ++ es).length = ps.length →
      ∃ k, bindArgs (PySem.W.fnOf x qual (defArgs st) (defBody st) (defScope st) (.ref T) kV doc pm an cdv ct) ⟨us, []⟩ = seqItems? (PySem.W.fnOf x qual (defArgs st) (defBody st) (defScope st) (.ref T) kV doc pm an cdv ct).defaults >>= k ∧ k (some ds.toArray) = pure (ps.zip (us ++ es))) : Binds K fd ps es := by
  obtain ⟨oc, od, kV, doc, pm, an, cdv, ct, osl, T, oT, n, rfl, lk, hcd, hT, hd⟩ := F.ex
  intro s us hK hl
  obtain ⟨k, h1, h2⟩ := h T kV doc pm an cdv ct us hl
  exact .of_defaults rfl (hK _ _ hT) hd h1 h2
end
end L2
namespace L2
open PySem PySem.Spec PyProof.Rows
theorem xB {α : Type} {x : Str} {c : α} : ∀ {l : List (Str × α)}, l.lookup x = some c → (x, c) ∈ l
  | [], h => by cases h
  | (y, d) :: l, h => by
    rw [List.lookup_cons] at h
    cases e : x == y with
    | true =>
      rw [e] at h
      have h1 : x = y := by simpa using e
      have h2 : d = c := Option.some.inj h
      rw [h1, h2]
      exact List.mem_cons_self
    | false =>
      rw [e] at h
      exact List.mem_cons_of_mem _ (xB h)
noncomputable def uK (k : Option NameKind) : Bool := match k with
  | some .cell => true
  | some .free => true
  | _ => false
theorem jR {k : Option NameKind} (h : uK k = true) : k = some .cell ∨ k = some .free := by
  unfold uK at h
  split at h
  · exact .inl rfl
  · exact .inr rfl
  · cases h
inductive CellsIn (big : List (Str × Addr)) : List (Str × Addr) → Prop
  | nil : CellsIn big []
  | cons {x : Str} {c : Addr} {l : List (Str × Addr)} : big.lookup x = some c → CellsIn big l → CellsIn big ((x, c) :: l)
theorem CellsIn.mem {big : List (Str × Addr)} {x : Str} {c : Addr} : ∀ {l : List (Str × Addr)}, CellsIn big l → (x, c) ∈ l → big.lookup x = some c
  | _, .nil, h => by cases h
  | _, .cons e r, h => by
    rcases List.mem_cons.mp h with z | z
    · cases z
      exact e
    · exact r.mem z
theorem qU {X : Cx} {N : List Str} {n : Nat} {js : List Nat} {scope : Scope} {cl : List (Str × Addr)} (clos : closureFor scope X.env = pure cl := by rfl) (nocell : (scope.names.all fun y => !(y.2 == .cell)) = true := by rfl) (kind : scope.kind = .function := by rfl)
    (names : (scope.names.all fun y => !(y.2 == .local) || scope.names.lookup y.1 == some .local) = true := by rfl) (cells : CellsIn X.env.cells cl := by repeat' first | exact CellsIn.nil | refine CellsIn.cons rfl ?_)
    (has : ((relabel scope X.env).names.all fun y => !(uK (some y.2)) || (cl.lookup y.1).isSome) = true := by rfl) (len : n + js.length = N.length := by rfl)
    (free : ((N.drop n).zip js).all (fun p => X.N[p.2]? == some p.1 && uK (X.env.scope.names.lookup p.1) && uK ((relabel scope X.env).names.lookup p.1) && (cl.lookup p.1).isSome) = true := by rfl) : LcOk X N n js scope cl where
  clos := clos
  nocell := fun y hy e => by
    have h := List.all_eq_true.mp nocell y hy
    rw [e] at h
    cases h
  kind := kind
  names := fun y hy e => by
    have h := List.all_eq_true.mp names y hy
    rw [e] at h
    simpa using h
  cells := fun x c h => cells.mem (xB h)
  has := fun x h => by
    have key : ∀ k, (relabel scope X.env).names.lookup x = some k → uK (some k) = true → ∃ c, cl.lookup x = some c := fun k e hk => by
      have h1 := List.all_eq_true.mp has (x, k) (xB e)
      rw [hk] at h1
      exact Option.isSome_iff_exists.mp (by simpa using h1)
    rcases h with h | h
    · exact key _ h rfl
    · exact key _ h rfl
  len := len
  free := fun i x h => by
    have hd : (N.drop n)[i]? = some x := by rw [List.getElem?_drop]; exact h
    have hi : i < (N.drop n).length := (List.getElem?_eq_some_iff.mp hd).1
    have hj : i < js.length := by rw [List.length_drop] at hi; omega
    have hz : ((N.drop n).zip js)[i]? = some (x, js[i]) := by
      rw [List.getElem?_zip_eq_some]
      exact ⟨hd, List.getElem?_eq_getElem hj⟩
    have h1 := List.all_eq_true.mp free (x, js[i]) (List.mem_of_getElem? hz)
    simp only [Bool.and_eq_true, beq_iff_eq] at h1
    obtain ⟨⟨⟨a1, a2⟩, a3⟩, a4⟩ := h1
    obtain ⟨c, hc⟩ := Option.isSome_iff_exists.mp a4
    exact ⟨js[i], c, List.getElem?_eq_getElem hj, a1, jR a2, jR a3, hc⟩
noncomputable def LcL (K : PySem.W.Frag) (a : Addr) (g : TG) (tt : TT) (te : TE) (σ0 : St) (H1 : Hp) (Q : VK) : Prop := ∀ D, H1 D = none → ∃ W : Nat → Nat → St → Hp → Prop, (∃ m, W 0 m σ0 (upd H1 D (.lst []))) ∧ ∀ i m σ' H', W i m σ' H' →
  ((Itl K a).stop i H' ∧ Q (.ref D) H') ∨ ((Itl K a).go i H' ∧ ∃ Nx : St → Hp → Prop, (∀ σ2 H2, Nx σ2 H2 → ∃ m', m' < m ∧ W (i + 1) m' σ2 H2) ∧
    ∀ x H2, (Itl K a).yld i H' x H2 → g x σ' H2 fun σ3 H3 => tt σ3 H3 fun ok H4 => if ok = true then te σ3 H4 fun y H5 => ∃ ys, H5 D = some (.lst ys) ∧ ys.length < sizeLine ∧ Nx σ3 (upd H5 D (.lst (ys ++ [y]))) else Nx σ3 H4)
theorem LcL.by {K : PySem.W.Frag} {a : Addr} {xs : List V} {g : TG} {tt : TT} {te : TE} {σ0 : St} {H1 : Hp} {Q : VK} (Pv : Addr → Nat → St → Hp → Prop) (h0 : ∀ D, H1 D = none → Pv D 0 σ0 (upd H1 D (.lst [])))
    (hl : ∀ D i σ H, H1 D = none → i ≤ xs.length → Pv D i σ H → SqL K H a xs)
    (hs : ∀ D i x σ H, H1 D = none → xs[i]? = some x → Pv D i σ H → g x σ H fun σ3 H3 => tt σ3 H3 fun ok H4 => if ok = true then te σ3 H4 fun y H5 => ∃ ys, H5 D = some (.lst ys) ∧ ys.length < sizeLine ∧ Pv D (i + 1) σ3 (upd H5 D (.lst (ys ++ [y]))) else Pv D (i + 1) σ3 H4)
    (hd : ∀ D σ H, H1 D = none → Pv D xs.length σ H → Q (.ref D) H) : LcL K a g tt te σ0 H1 Q := by
  intro D hD
  refine ⟨fun i m σ H => m = xs.length - i ∧ i ≤ xs.length ∧ Pv D i σ H, ⟨xs.length, by simp, Nat.zero_le _, h0 D hD⟩, ?_⟩
  rintro i m σ H ⟨rfl, hi, p⟩
  have q := hl D i σ H hD hi p
  by_cases hlt : i < xs.length
  · refine .inr ⟨⟨xs, xs[i], q, by simp [hlt]⟩, Pv D (i + 1), fun σ' H' p' => ⟨xs.length - (i + 1), by omega, rfl, hlt, p'⟩, fun x H' y => ?_⟩
    obtain ⟨e, y⟩ := y
    subst e
    exact hs D i x σ _ hD (y xs q) p
  · have e : i = xs.length := by omega
    subst e
    exact .inl ⟨⟨xs, q, Nat.le_refl _⟩, hd D σ H hD p⟩
noncomputable def LcR (n0 : Nat) (g : TG) (tt : TT) (te : TE) (σ0 : St) (H1 : Hp) (Q : VK) : Prop := ∀ D, H1 D = none → ∃ W : Nat → Nat → St → Hp → Prop, (∃ m, W 0 m σ0 (upd H1 D (.lst []))) ∧ ∀ i m σ' H', W i m σ' H' →
  ((Itr 0 n0).stop i H' ∧ Q (.ref D) H') ∨ ((Itr 0 n0).go i H' ∧ ∃ Nx : St → Hp → Prop, (∀ σ2 H2, Nx σ2 H2 → ∃ m', m' < m ∧ W (i + 1) m' σ2 H2) ∧
    ∀ x H2, (Itr 0 n0).yld i H' x H2 → g x σ' H2 fun σ3 H3 => tt σ3 H3 fun ok H4 => if ok = true then te σ3 H4 fun y H5 => ∃ ys, H5 D = some (.lst ys) ∧ ys.length < sizeLine ∧ Nx σ3 (upd H5 D (.lst (ys ++ [y]))) else Nx σ3 H4)
theorem LcR.by {n0 : Nat} {g : TG} {tt : TT} {te : TE} {σ0 : St} {H1 : Hp} {Q : VK} (Pv : Addr → Nat → St → Hp → Prop) (h0 : ∀ D, H1 D = none → Pv D 0 σ0 (upd H1 D (.lst [])))
    (hs : ∀ D i σ H, H1 D = none → i < n0 → Pv D i σ H → g (.int i) σ H fun σ3 H3 => tt σ3 H3 fun ok H4 => if ok = true then te σ3 H4 fun y H5 => ∃ ys, H5 D = some (.lst ys) ∧ ys.length < sizeLine ∧ Pv D (i + 1) σ3 (upd H5 D (.lst (ys ++ [y]))) else Pv D (i + 1) σ3 H4)
    (hd : ∀ D σ H, H1 D = none → Pv D n0 σ H → Q (.ref D) H) : LcR n0 g tt te σ0 H1 Q := by
  intro D hD
  refine ⟨fun i m σ H => m = n0 - i ∧ i ≤ n0 ∧ Pv D i σ H, ⟨n0, by simp, Nat.zero_le _, h0 D hD⟩, ?_⟩
  rintro i m σ H ⟨rfl, hi, p⟩
  by_cases hlt : i < n0
  · refine .inr ⟨hlt, Pv D (i + 1), fun σ' H' p' => ⟨n0 - (i + 1), by omega, rfl, hlt, p'⟩, fun x H' y => ?_⟩
    obtain ⟨e, y⟩ := y
    subst e y
    rw [Int.zero_add]
    exact hs D i σ _ hD hlt p
  · have e : i = n0 := by omega
    subst e
    exact .inl ⟨Nat.le_refl _, hd D σ H hD p⟩
end L2
namespace L2
open PySem PySem.Spec PyProof.Rows
noncomputable abbrev Cel := Str × Int
noncomputable abbrev Pict := List (List Cel)
noncomputable def vW (c : Cel) : PyData := .tuple [.str c.1, .int c.2]
noncomputable def Jv (r : List Cel) : PyData := .list (r.map vW)
noncomputable def Jw (p : Pict) : PyData := .list (p.map Jv)
noncomputable def okC (c : Cel) : Prop := PyData.strOk c.1 = true
structure IsPic (p : Pict) (w h : Nat) : Prop where
  hh : p.length = h
  ww : ∀ r ∈ p, r.length = w
  ok : ∀ r ∈ p, ∀ c ∈ r, okC c
  w1 : 1 ≤ w
  w2 : w ≤ 24
  h1 : 1 ≤ h
  h2 : h ≤ 12
theorem Reps.at {K : PySem.W.Frag} {H : Hp} : ∀ {ds : List PyData} {xs : List V} (i : Nat) {d : PyData}, Reps K H ds xs → ds[i]? = some d → ∃ x, xs[i]? = some x ∧ Rep K H d x
  | [], _, i, d, _, e => by cases e
  | d0 :: ds, _, i, d, h, e => by
    obtain ⟨y, r, rfl, h1, h2⟩ := h
    cases i with
    | zero =>
      cases e
      exact ⟨y, rfl, h1⟩
    | succ i =>
      obtain ⟨x, e', h'⟩ := h2.at i (d := d) (by simpa using e)
      exact ⟨x, by simpa using e', h'⟩
section
variable {K : PySem.W.Frag} {H : Hp}
end
noncomputable def xj (H : Hp) : List (Int × Int) → List V → Prop
  | [], xs => xs = []
  | p :: l, xs => ∃ t r, xs = .ref t :: r ∧ H t = some (.tup [.int p.1, .int p.2]) ∧ xj H l r
theorem xj.same {H H' : Hp} (e : ∀ b xs, H b = some (.tup xs) → H' b = some (.tup xs)) : ∀ {l : List (Int × Int)} {xs : List V}, xj H l xs → xj H' l xs
  | [], _, h => h
  | p :: l, _, h => by
    obtain ⟨t, r, e1, h1, h2⟩ := h
    exact ⟨t, r, e1, e _ _ h1, h2.same e⟩
theorem xj.length {H : Hp} : ∀ {l : List (Int × Int)} {xs : List V}, xj H l xs → xs.length = l.length
  | [], _, h => by rw [show _ = [] from h]; rfl
  | p :: l, _, h => by
    obtain ⟨t, r, rfl, _, h2⟩ := h
    rw [List.length_cons, List.length_cons, h2.length]
theorem xj.snoc {H : Hp} {p : Int × Int} {t : Addr} (ht : H t = some (.tup [.int p.1, .int p.2])) : ∀ {l : List (Int × Int)} {xs : List V}, xj H l xs → xj H (l ++ [p]) (xs ++ [.ref t])
  | [], _, h => by
    rw [show _ = [] from h]
    exact ⟨t, [], rfl, ht, rfl⟩
  | q :: l, _, h => by
    obtain ⟨u, r, rfl, h1, h2⟩ := h
    exact ⟨u, r ++ [.ref t], rfl, h1, h2.snoc ht⟩
theorem xj.at {H : Hp} : ∀ {l : List (Int × Int)} {xs : List V} (i : Nat) {x : V}, xj H l xs → xs[i]? = some x → ∃ (t : Addr) (p : Int × Int), x = .ref t ∧ H t = some (.tup [.int p.1, .int p.2])
  | [], _, i, x, h, e => by
    rw [show _ = [] from h] at e
    cases e
  | p :: l, _, i, x, h, e => by
    obtain ⟨t, r, rfl, h1, h2⟩ := h
    cases i with
    | zero =>
      cases e
      exact ⟨t, p, rfl, h1⟩
    | succ i => exact h2.at i (by simpa using e)
noncomputable def vc (p : Pict) (i j : Nat) : Cel := (p.getD i []).getD j (Str.ofString "", 0)
theorem Yu {p : Pict} {w h : Nat} (ip : IsPic p w h) {i j : Nat} (hi : i < h) (hj : j < w) : ∃ r, p[i]? = some r ∧ r.length = w ∧ r[j]? = some (vc p i j) ∧ okC (vc p i j) := by
  have hl : i < p.length := by rw [ip.hh]; exact hi
  have hm : p[i] ∈ p := List.getElem_mem hl
  have hw := ip.ww _ hm
  have hj' : j < p[i].length := by rw [hw]; exact hj
  have e : vc p i j = p[i][j] := by
    unfold vc
    have e1 : p.getD i [] = p[i] := by rw [List.getD_eq_getElem?_getD, List.getElem?_eq_getElem hl, Option.getD_some]
    rw [e1, List.getD_eq_getElem?_getD, List.getElem?_eq_getElem hj', Option.getD_some]
  refine ⟨p[i], List.getElem?_eq_getElem hl, hw, ?_, ?_⟩
  · rw [e, List.getElem?_eq_getElem hj']
  · rw [e]
    exact ip.ok _ hm _ (List.getElem_mem hj')
end L2
namespace L2
open PySem PySem.Spec PyProof.Rows
noncomputable def Bld (K : PySem.W.Frag) (H0 H : Hp) (av : List Addr) (r : Addr) (ds : List PyData) : Prop := ∃ G vs, Same H0 G ∧ Same G H ∧ (∀ b ∈ r :: av, G b = none) ∧ H r = some (.lst vs) ∧ Reps K G ds vs
section
variable {K : PySem.W.Frag} {H0 H H1 : Hp} {av : List Addr} {r t l : Addr} {ds es : List PyData} {d : PyData}
theorem Bld.new (hs : Same H0 H) (ha : ∀ b ∈ av, H0 b = none) (hr : H r = none) : Bld K H0 (upd H r (.lst [])) av r [] := by
  refine ⟨H0, [], fun _ _ e => e, xi hs (hs.free hr), fun b hb => ?_, zh, rfl⟩
  rcases List.mem_cons.mp hb with z | z
  · rw [z]
    exact hs.free hr
  · exact ha b z
theorem Bld.same (b : Bld K H0 H av r ds) (hs : Same H H1) : Bld K H0 H1 av r ds := by
  obtain ⟨G, vs, h1, h2, h3, h4, h5⟩ := b
  exact ⟨G, vs, h1, h2.trans hs, h3, hs _ _ h4, h5⟩
theorem Bld.base (b : Bld K H0 H av r ds) : Same H0 H := by
  obtain ⟨G, vs, h1, h2, _⟩ := b
  exact h1.trans h2
theorem Bld.lst (b : Bld K H0 H av r ds) : ∃ vs, H r = some (.lst vs) ∧ vs.length = ds.length := by
  obtain ⟨G, vs, h1, h2, h3, h4, h5⟩ := b
  exact ⟨vs, h4, h5.length.symm⟩
theorem Bld.tup {cs vs : List V} (b : Bld K H0 H av r ds) (hv : H r = some (.lst vs)) (ha : ∀ c ∈ av, ∃ o, H c = some o) (ht : H t = none) (hc : ∀ G, Reps K G es cs) :
    Bld K H0 (upd (upd H t (.tup cs)) r (.lst (vs ++ [.ref t]))) av r (ds ++ [.tuple es]) := by
  obtain ⟨G, ws, h1, h2, h3, h4, h5⟩ := b
  rw [hv] at h4
  cases h4
  have nr : t ≠ r := fun z => by rw [z, hv] at ht; cases ht
  have gt : G t = none := h2.free ht
  refine ⟨upd G t (.tup cs), _, h1.trans (zX gt), fun c o q => ?_, fun c hc' => ?_, zh, ?_⟩
  · by_cases z : c = t
    · rw [z] at q ⊢
      rw [zh] at q
      rw [za nr, zh]
      exact q
    · rw [za z] at q
      have nc : c ≠ r := fun y => by rw [y, h3 r List.mem_cons_self] at q; cases q
      rw [za nc, za z]
      exact h2 _ _ q
  · have nc : c ≠ t := fun y => by
      rcases List.mem_cons.mp hc' with z | z
      · exact nr (y.symm.trans z)
      · obtain ⟨o, q⟩ := ha c z
        rw [y, ht] at q
        cases q
    rw [za nc]
    exact h3 c hc'
  · exact (Reps.same (zX gt) _ _ h5).snoc ⟨t, cs, rfl, SqT.of zh, hc _⟩
theorem Bld.row {vs : List V} {G : Hp} (h1 : Same H0 G) (h3 : ∀ b ∈ r :: av, G b = none) (h5 : Reps K G ds vs) (b : Bld K G H (r :: av) l es) (hv : H r = some (.lst vs)) (nl : ∀ c ∈ r :: av, c ≠ l) :
    Bld K H0 (upd H r (.lst (vs ++ [.ref l]))) av r (ds ++ [.list es]) := by
  obtain ⟨G2, us, k1, k2, k3, k4, k5⟩ := b
  have gl : G2 l = none := k3 l List.mem_cons_self
  have nr : l ≠ r := (nl r List.mem_cons_self).symm
  have sn : Same G2 (upd G2 l (.lst us)) := zX gl
  refine ⟨upd G2 l (.lst us), _, (h1.trans k1).trans sn, fun c o q => ?_, fun c hc => ?_, zh, ?_⟩
  · by_cases z : c = l
    · rw [z] at q ⊢
      rw [zh] at q
      rw [za nr, k4]
      exact q
    · rw [za z] at q
      have nc : c ≠ r := fun y => by rw [y, k3 r (List.mem_cons_of_mem _ List.mem_cons_self)] at q; cases q
      rw [za nc]
      exact k2 _ _ q
  · rw [za (nl c hc)]
    exact k3 c (List.mem_cons_of_mem _ hc)
  · exact (Reps.same (k1.trans sn) _ _ h5).snoc ⟨l, us, rfl, SqL.of zh, Reps.same sn _ _ k5⟩
theorem Bld.done (b : Bld K H0 H av r ds) : Rep K H (.list ds) (.ref r) := by
  obtain ⟨G, vs, h1, h2, h3, h4, h5⟩ := b
  exact ⟨r, vs, rfl, SqL.of h4, Reps.same h2 _ _ h5⟩
end
end L2
namespace L2
open PySem PySem.Spec PyProof.Rows
noncomputable def z7 (K : PySem.W.Frag) (H0 H : Hp) (r : Addr) (p : Pict) : Prop := ∃ (G : Hp) (as : List Addr), Same H0 G ∧ Same G H ∧ (∀ a ∈ r :: as, G a = none) ∧ (r :: as).Nodup ∧ H r = some (.lst (as.map V.ref)) ∧ as.length = p.length ∧
  ∀ (i : Nat) row, p[i]? = some row → ∃ a us, as[i]? = some a ∧ H a = some (.lst us) ∧ Reps K G (row.map vW) us
section
variable {K : PySem.W.Frag} {H0 H H1 : Hp} {r b t : Addr} {p : Pict} {row : List Cel}
theorem z7.new (hs : Same H0 H) (hr : H r = none) : z7 K H0 (upd H r (.lst [])) r [] := by
  refine ⟨H0, [], fun _ _ e => e, xi hs (hs.free hr), fun b hb => ?_, by simp, zh, rfl, fun i row q => by simp at q⟩
  rw [List.mem_singleton.mp hb]
  exact hs.free hr
theorem z7.same (g : z7 K H0 H r p) (hs : Same H H1) : z7 K H0 H1 r p := by
  obtain ⟨G, as, h1, h2, h3, h4, h5, h6, h7⟩ := g
  refine ⟨G, as, h1, h2.trans hs, h3, h4, hs _ _ h5, h6, fun i row q => ?_⟩
  obtain ⟨a, us, k1, k2, k3⟩ := h7 i row q
  exact ⟨a, us, k1, hs _ _ k2, k3⟩
theorem z7.base (g : z7 K H0 H r p) : Same H0 H := by
  obtain ⟨G, as, h1, h2, _⟩ := g
  exact h1.trans h2
theorem z7.lst (g : z7 K H0 H r p) : ∃ vs, H r = some (.lst vs) ∧ vs.length = p.length := by
  obtain ⟨G, as, h1, h2, h3, h4, h5, h6, h7⟩ := g
  exact ⟨_, h5, by rw [List.length_map]; exact h6⟩
theorem z7.put {ys vs : List V} {H2 : Hp} (g : z7 K H0 H r p) (hv : H r = some (.lst vs)) (hy : Reps K H0 (row.map vW) ys) (hb : H b = none) (hs : Same H H2) (hb2 : H2 b = some (.lst ys)) : z7 K H0 (upd H2 r (.lst (vs ++ [.ref b]))) r (p ++ [row]) := by
  obtain ⟨G, as, h1, h2, h3, h4, h5, h6, h7⟩ := g
  rw [hv] at h5
  have h5 : vs = as.map V.ref := by cases h5; rfl
  subst h5
  have nb : ∀ (c : Addr) (o : HO), H c = some o → c ≠ b := fun c o q z => by
    rw [z, hb] at q
    cases q
  have inH : ∀ c ∈ as, ∃ o, H c = some o := fun c hc => by
    obtain ⟨i, hi, e⟩ := List.getElem_of_mem hc
    obtain ⟨a, us, k1, k2, _⟩ := h7 i _ (List.getElem?_eq_getElem (h6 ▸ hi))
    rw [List.getElem?_eq_getElem hi] at k1
    cases k1
    exact ⟨_, e ▸ k2⟩
  have nr := nb r _ hv
  have nin : b ∉ as := fun z => by
    obtain ⟨o, q⟩ := inH b z
    exact nb b o q rfl
  obtain ⟨n1, n2⟩ := List.nodup_cons.mp h4
  refine ⟨G, as ++ [b], h1, fun c o q => ?_, fun c hc => ?_, ?_, by rw [List.map_append]; exact zh, by simp [h6], fun i y q => ?_⟩
  · have c1 : c ≠ r := fun z => by rw [z, h3 r List.mem_cons_self] at q; cases q
    rw [za c1]
    exact hs _ _ (h2 _ _ q)
  · rcases List.mem_cons.mp hc with z | z
    · rw [z]
      exact h3 r List.mem_cons_self
    · rcases List.mem_append.mp z with z | z
      · exact h3 c (List.mem_cons_of_mem _ z)
      · rw [List.mem_singleton.mp z]
        exact h2.free hb
  · rw [List.nodup_cons]
    refine ⟨fun z => ?_, List.nodup_append.mpr ⟨n2, by simp, fun x hx y hy z => ?_⟩⟩
    · rcases List.mem_append.mp z with z | z
      · exact n1 z
      · exact nr (List.mem_singleton.mp z)
    · rw [z, List.mem_singleton.mp hy] at hx
      exact nin hx
  · by_cases hi : i < p.length
    · rw [List.getElem?_append_left hi] at q
      obtain ⟨a, us, k1, k2, k3⟩ := h7 i y q
      have ar : a ≠ r := fun z => n1 (z ▸ List.mem_of_getElem? k1)
      exact ⟨a, us, by rw [List.getElem?_append_left (h6 ▸ hi)]; exact k1, by rw [za ar]; exact hs _ _ k2, k3⟩
    · have e : i = p.length := by
        have := (List.getElem?_eq_some_iff.mp q).1
        simp at this
        omega
      subst e
      simp only [List.getElem?_concat_length, Option.some.injEq] at q
      subst q
      exact ⟨b, ys, by rw [← h6]; simp, by rw [za nr.symm]; exact hb2, Reps.same h1 _ _ hy⟩
theorem z7.push {ys vs : List V} (g : z7 K H0 H r p) (hv : H r = some (.lst vs)) (hy : Reps K H0 (row.map vW) ys) (hb : H b = none) : z7 K H0 (upd (upd H b (.lst ys)) r (.lst (vs ++ [.ref b]))) r (p ++ [row]) := g.put hv hy hb (zX hb) zh
theorem Reps.set {G : Hp} : ∀ {ds : List PyData} {xs : List V} (j : Nat) {d : PyData} {x : V}, Reps K G ds xs → Rep K G d x → Reps K G (ds.set j d) (xs.set j x)
  | [], _, j, d, x, h, _ => by
    rw [show _ = [] from h]
    rfl
  | d0 :: ds, _, j, d, x, h, h' => by
    obtain ⟨y, q, rfl, h1, h2⟩ := h
    cases j with
    | zero => exact ⟨x, q, rfl, h', h2⟩
    | succ j => exact ⟨y, _, rfl, h1, h2.set j h'⟩
theorem Vv {c : Cel} {u : V} (h : Rep K H (vW c) u) : ∃ t, u = .ref t ∧ SqT K H t [.str c.1, .int c.2] := by
  obtain ⟨t, xs, rfl, h1, x1, q1, rfl, e1, x2, q2, rfl, e2, e3⟩ := h
  cases e1
  cases e2
  cases e3
  exact ⟨t, rfl, h1⟩
theorem z7.cell {i j : Nat} {c : Cel} (g : z7 K H0 H r p) (hi : p[i]? = some row) (hj : row[j]? = some c) : ∃ vs a us t, H r = some (.lst vs) ∧ atI vs (i : Int) = some (.ref a) ∧ H a = some (.lst us) ∧ us.length = row.length ∧ atI us (j : Int) = some (.ref t) ∧ SqT K H t [.str c.1, .int c.2] ∧
    ∀ H2 t2 z n, Same H H2 → H2 t2 = none → z7 K H0 (upd (upd H2 t2 (.tup [.str z, .int n])) a (.lst (us.set j (.ref t2)))) r (p.set i (row.set j (z, n))) := by
  obtain ⟨G, as, h1, h2, h3, h4, h5, h6, h7⟩ := g
  obtain ⟨a, us, k1, k2, k3⟩ := h7 i row hi
  obtain ⟨u, hu, ru⟩ := k3.at j (d := vW c) (by rw [List.getElem?_map, hj]; rfl)
  obtain ⟨t, rfl, ht⟩ := Vv (Rep.same h2 _ _ ru)
  obtain ⟨n1, n2⟩ := List.nodup_cons.mp h4
  have am : a ∈ as := List.mem_of_getElem? k1
  have ar : a ≠ r := fun z => n1 (z ▸ am)
  refine ⟨_, a, us, t, h5, y8 (by rw [List.getElem?_map, k1]; rfl), k2, by rw [← k3.length, List.length_map], y8 hu, ht, fun H2 t2 z n hs ht2 => ?_⟩
  have nt : ∀ (b : Addr) (o : HO), H2 b = some o → b ≠ t2 := fun b o q y => by
    rw [y, ht2] at q
    cases q
  have gt : G t2 = none := (h2.trans hs).free ht2
  have sn : Same G (upd G t2 (.tup [.str z, .int n])) := zX gt
  refine ⟨upd G t2 (.tup [.str z, .int n]), as, h1.trans sn, fun b o q => ?_, fun b hb => ?_, h4, ?_, by rw [List.length_set]; exact h6, fun i' y q => ?_⟩
  · have na : b ≠ a := fun y => by
      rw [y] at q
      by_cases w : a = t2
      · exact nt a _ (hs _ _ k2) w
      · rw [za w, h3 a (List.mem_cons_of_mem _ am)] at q
        cases q
    rw [za na]
    by_cases w : b = t2
    · rw [w] at q ⊢
      rw [zh] at q ⊢
      exact q
    · rw [za w] at q ⊢
      exact hs _ _ (h2 _ _ q)
  · have nb : b ≠ t2 := by
      rcases List.mem_cons.mp hb with y | y
      · rw [y]
        exact nt r _ (hs _ _ h5)
      · obtain ⟨k, hk, e⟩ := List.getElem_of_mem y
        obtain ⟨a', us', m1, m2, _⟩ := h7 k _ (List.getElem?_eq_getElem (h6 ▸ hk))
        rw [List.getElem?_eq_getElem hk] at m1
        cases m1
        rw [← e]
        exact nt _ _ (hs _ _ m2)
    rw [za nb]
    exact h3 b hb
  · rw [za ar.symm, za (nt r _ (hs _ _ h5))]
    exact hs _ _ h5
  · by_cases e : i' = i
    · subst e
      have hl : i' < p.length := (List.getElem?_eq_some_iff.mp hi).1
      rw [List.getElem?_set_self hl] at q
      cases q
      refine ⟨a, _, k1, zh, ?_⟩
      rw [List.map_set]
      exact (Reps.same sn _ _ k3).set j ⟨t2, _, rfl, SqT.of zh, .str z, _, rfl, rfl, .int n, [], rfl, rfl, rfl⟩
    · rw [List.getElem?_set_ne (Ne.symm e)] at q
      obtain ⟨a', us', m1, m2, m3⟩ := h7 i' y q
      have na : a' ≠ a := fun w => by
        rw [w] at m1
        have l1 := (List.getElem?_eq_some_iff.mp m1)
        have l2 := (List.getElem?_eq_some_iff.mp k1)
        exact e ((List.getElem_inj n2).mp (l1.2.trans l2.2.symm))
      exact ⟨a', us', m1, by rw [za na, za (nt a' _ (hs _ _ m2))]; exact hs _ _ m2, Reps.same sn _ _ m3⟩
theorem z7.done (g : z7 K H0 H r p) : Rep K H (Jw p) (.ref r) := by
  obtain ⟨G, as, h1, h2, h3, h4, h5, h6, h7⟩ := g
  refine ⟨r, _, rfl, SqL.of h5, ?_⟩
  clear h5 h4 h3
  induction p generalizing as with
  | nil =>
    cases as with
    | nil => rfl
    | cons _ _ => cases h6
  | cons y p ih =>
    cases as with
    | nil => cases h6
    | cons a as =>
      obtain ⟨a', us, k1, k2, k3⟩ := h7 0 y rfl
      cases k1
      exact ⟨.ref a, as.map V.ref, rfl, ⟨a, us, rfl, SqL.of k2, Reps.same h2 _ _ k3⟩, ih as (by simpa using h6) fun i z q => h7 (i + 1) z (by simpa using q)⟩
end
end L2
namespace L2
open PySem PySem.Spec PyProof.Rows
section
variable {X : Cx} {K : PySem.W.Frag}
theorem UU (h : X.K = K) : SlR X (Ym K) := by
  subst h
  exact Vq
theorem vD (h : X.K = K) : IxR X (ku K) := by
  subst h
  exact Vp
end
end L2
namespace L2
open PySem PySem.Spec PyProof.Rows
noncomputable def Yv (K : PySem.W.Frag) : R2 := fun x y H Q => ∃ l b xs zs, x = .ref l ∧ y = .ref b ∧ SqL K H l xs ∧ SqL K H b zs ∧ xs.length + zs.length ≤ sizeLine ∧ ∀ p, H p = none → Q (.ref p) (upd H p (.lst (xs ++ zs)))
theorem Zu {X : Cx} {K : PySem.W.Frag} (hK : X.K = K) : OpR X (binaryOp .Add) (Yv K) := by
  subst hK
  intro pins s σ H x y v u Q I rx ry h
  obtain ⟨l, b, xs, zs, rfl, rfl, hH, hB, hz, q⟩ := h
  cases rx
  cases ry
  obtain ⟨its, r, ⟨o1, n1, e1, c1, d1, m1⟩, z1⟩ := I.list hH
  obtain ⟨ita, r2, ⟨o2, n2, e2, c2, d2, m2⟩, z2⟩ := I.list hB
  obtain ⟨g1, g2, g3, g4⟩ := o1
  obtain ⟨f1, f2, f3, f4⟩ := o2
  simp only at c1 d1 m1 c2 d2 m2
  subst c1 d1 m1 c2 d2 m2
  have hs : its.length + ita.length ≤ sizeLine := by
    rw [← r.length, ← r2.length]
    exact hz
  have ea : its.toArray ++ ita.toArray = (its ++ ita).toArray := by simp
  refine concat_meets ⟨_, e1, rfl⟩ ⟨_, e2, rfl⟩ noFill_list_add seq_list_add F.slot_list_add F.entry_list_add (F.args_list_add_2 _ _) (list_addW l b its.toArray ita.toArray n1 n2 none none g4 f4 (by simpa using hs)) ⟨e1, e2, ?_⟩
  rw [ea]
  exact ⟨.ref _, _, I.lnew (t' := s.toks) (r.append r2) (by rw [List.length_append]; omega), rfl, q _ I.fresh⟩
theorem Reps.drop {K : PySem.W.Frag} {H : Hp} : ∀ {ds : List PyData} {xs : List V} (k : Nat), Reps K H ds xs → Reps K H (ds.drop k) (xs.drop k)
  | [], _, k, h => by
    rw [show _ = [] from h]
    simp only [List.drop_nil]
    rfl
  | d :: ds, _, k, h => by
    obtain ⟨y, q, rfl, h1, h2⟩ := h
    cases k with
    | zero => exact ⟨y, q, rfl, h1, h2⟩
    | succ k => exact h2.drop k
theorem Reps.take {K : PySem.W.Frag} {H : Hp} : ∀ {ds : List PyData} {xs : List V} (k : Nat), Reps K H ds xs → Reps K H (ds.take k) (xs.take k)
  | [], _, k, h => by
    rw [show _ = [] from h]
    simp only [List.take_nil]
    rfl
  | d :: ds, _, k, h => by
    obtain ⟨y, q, rfl, h1, h2⟩ := h
    cases k with
    | zero => rfl
    | succ k => exact ⟨y, _, rfl, h1, h2.take k⟩
theorem Reps.append {K : PySem.W.Frag} {H : Hp} : ∀ {ds es : List PyData} {xs ys : List V}, Reps K H ds xs → Reps K H es ys → Reps K H (ds ++ es) (xs ++ ys)
  | [], _, _, _, h, h' => by
    rw [show _ = [] from h]
    exact h'
  | d :: ds, _, _, _, h, h' => by
    obtain ⟨y, q, rfl, h1, h2⟩ := h
    exact ⟨y, _, rfl, h1, h2.append h'⟩
theorem IsPic.more {p : Pict} {w h : Nat} (ip : IsPic p w h) (h2 : h < 12) : IsPic (p ++ p.take 1) w (h + 1) := by
  have hm : ∀ r, r ∈ p ++ p.take 1 → r ∈ p := fun r hr => (List.mem_append.mp hr).elim id List.mem_of_mem_take
  have := ip.h1
  exact ⟨by rw [List.length_append, List.length_take, ip.hh]; omega, fun r hr => ip.ww r (hm r hr), fun r hr => ip.ok r (hm r hr), ip.w1, ip.w2, by omega, by omega⟩
theorem IsPic.rows {p : Pict} {w h w' : Nat} (g : List Cel → List Cel) (ip : IsPic p w h) (hg : ∀ r ∈ p, (g r).length = w') (hm : ∀ r c, c ∈ g r → c ∈ r) (h1 : 1 ≤ w') (h2 : w' ≤ 24) : IsPic (p.map g) w' h := by
  refine ⟨by rw [List.length_map, ip.hh], fun r hr => ?_, fun r hr c hc => ?_, h1, h2, ip.h1, ip.h2⟩
  · obtain ⟨y, hy, rfl⟩ := List.mem_map.mp hr
    exact hg y hy
  · obtain ⟨y, hy, rfl⟩ := List.mem_map.mp hr
    exact ip.ok y hy c (hm y c hc)
noncomputable def Xz (p : Pict) (h w : Nat) : Pict := (List.range w).map fun c => (List.range h).map fun i => vc p i c
theorem IsPic.turn {p : Pict} {w h : Nat} (ip : IsPic p w h) (hw : w ≤ 12) : IsPic (Xz p h w) h w := by
  refine ⟨by simp [Xz], fun r hr => ?_, fun r hr c hc => ?_, ip.h1, by have := ip.h2; omega, ip.w1, hw⟩
  · obtain ⟨y, _, rfl⟩ := List.mem_map.mp hr
    simp
  · obtain ⟨y, hy, rfl⟩ := List.mem_map.mp hr
    obtain ⟨i, hi, rfl⟩ := List.mem_map.mp hc
    obtain ⟨_, _, _, _, ok⟩ := Yu ip (List.mem_range.mp hi) (List.mem_range.mp hy)
    exact ok
end L2
namespace L2
open PySem PySem.Spec PyProof.Rows
noncomputable def Fly (h : Heap) (e C : Addr) (fp : List Addr) : Prop := ∃ oe vs, h.get? e = some oe ∧ (oe.cls = .ref C ∧ oe.dict = none) ∧ oe.data = .fields vs ∧ 1 < vs.size ∧
  ((vs[1]? = some .none ∧ fp = [e]) ∨ ∃ T oT ts, vs[1]? = some (.ref T) ∧ T ≠ e ∧ h.get? T = some oT ∧ oT.data = .fields ts ∧ ts[3]? = some .none ∧ fp = [e, T])
theorem Fly.mem {h : Heap} {e C : Addr} {fp : List Addr} (F : Fly h e C fp) : ∀ b ∈ fp, ∃ o vs, h.get? b = some o ∧ o.data = .fields vs := by
  obtain ⟨oe, vs, he, _, hd, _, ⟨_, rfl⟩ | ⟨T, oT, ts, _, _, hT, hdT, _, rfl⟩⟩ := F
  · intro b hb
    cases List.mem_singleton.mp hb
    exact ⟨oe, vs, he, hd⟩
  · intro b hb
    rcases List.mem_cons.mp hb with rfl | hb
    · exact ⟨oe, vs, he, hd⟩
    · cases List.mem_singleton.mp hb
      exact ⟨oT, ts, hT, hdT⟩
theorem Fly.self {h : Heap} {e C : Addr} {fp : List Addr} (F : Fly h e C fp) : e ∈ fp := by
  obtain ⟨_, _, _, _, _, _, ⟨_, rfl⟩ | ⟨_, _, _, _, _, _, _, _, rfl⟩⟩ := F <;> exact List.mem_cons_self
theorem Fly.keep {h h' : Heap} {e C : Addr} {fp : List Addr} (F : Fly h e C fp) (k : ∀ b ∈ fp, ∀ o, h.get? b = some o → h'.get? b = some o) : Fly h' e C fp := by
  have hs := F.self
  obtain ⟨oe, vs, he, hc, hd, hz, h1 | ⟨T, oT, ts, h1, h2, hT, hdT, h3, rfl⟩⟩ := F
  · exact ⟨oe, vs, k _ hs _ he, hc, hd, hz, .inl h1⟩
  · exact ⟨oe, vs, k _ hs _ he, hc, hd, hz, .inr ⟨T, oT, ts, h1, h2, k _ (by simp) _ hT, hdT, h3, rfl⟩⟩
section
variable {M : Model} {A : Around} {E : Value → Shared → Prop} {s : Shared}
structure Noted (fs fp : List Addr) (h h' : Heap) : Prop where
  keep : ∀ b o, h.get? b = some o → b ∉ fp → b ∉ fs → h'.get? b = some o
  slot : ∀ b o, h.get? b = some o → b ∉ fp → ∃ sl, h'.get? b = some { o with slots := sl }
  there : ∀ b o, h.get? b = some o → ∃ o', h'.get? b = some o'
theorem Noted.size {fs fp : List Addr} {h h' : Heap} (n : Noted fs fp h h') (hp : h'.objs.size < h.objs.size → False) : h.objs.size ≤ h'.objs.size := Nat.not_lt.mp hp
end
noncomputable def CX1 (P : Program) (w : World) : CXT := fun outer H s E ev s' => ∃ e C fp H', ev = .ref e ∧ Fly s'.heap e C fp ∧ (∀ b ∈ fp, s.heap.get? b = none ∧ H' b = none) ∧ s'.os = s.os ∧ AllBare s'.gens ∧ Un (frs outer) [] H H' s.heap s'.heap ∧ HOk P w H' s'.heap ∧ E (.ref C) none H'
noncomputable def FpX (X : Cx) (pins : List (Addr × Obj)) (H : Hp) (b : Addr) : Prop :=
  H b = none ∧ b ≠ X.env.locals ∧ b ∉ X.fs ∧ (b ∈ X.ex ∨ X.s₀.heap.get? b = none) ∧ (∀ x c, X.env.cells.lookup x = some c → c ≠ b) ∧ ∀ p ∈ X.pn ++ pins, p.1 ≠ b
theorem Inv.fpX {X : Cx} {pins : List (Addr × Obj)} {σ : St} {H H' : Hp} {s : Shared} {b : Addr} (I : Inv X pins σ H s) (hb : s.heap.get? b = none) (hn : H' b = none) : FpX X pins H' b := by
  have no : ∀ c o, s.heap.get? c = some o → c ≠ b := fun c o q z => by
    rw [z, hb] at q
    cases q
  refine ⟨hn, fun z => ?_, fun z => ?_, ?_, fun x c q => ?_, fun p hp => no _ _ (I.pin p hp).1⟩
  · obtain ⟨m, ⟨o, _, _, ho, _⟩, _⟩ := I.loc
    exact no _ _ ho z.symm
  · obtain ⟨_, o, ho, _⟩ := I.funs.mem z
    exact no _ _ ho rfl
  · by_cases hx : b ∈ X.ex
    · exact .inl hx
    · refine .inr ?_
      cases q : X.s₀.heap.get? b with
      | none => rfl
      | some o =>
        obtain ⟨o', q'⟩ := I.base.there b o q hx
        exact absurd rfl (no _ _ q')
  · obtain ⟨v, o, ho, _⟩ := I.cell x c q
    exact no _ _ ho
noncomputable def Up (X : Cx) (W : XK) (ev : Value) (s' : Shared) : Prop := ∃ pins σ H e C fp, ev = .ref e ∧ Inv X pins σ H s' ∧ Fly s'.heap e C fp ∧ (∀ b ∈ fp, FpX X pins H b) ∧ W (.ref C) none H
noncomputable def XA (X : Cx) (W : XK) : Prop := ∀ ev s', Up X W ev s' → X.xe ev s'
theorem XA.passes {X : Cx} {W : XK} (L : XA X W) : yP (CX1 X.prog X.w) X W := by
  rintro pins σ H s ev s' I ⟨e, C, fp, H', rfl, F, hf, os, bare, un, hok, hw⟩
  have I' : Inv X pins σ H' s' := I.call' (ch := []) os un hok bare fun b z => absurd z (by simp)
  exact L _ _ ⟨pins, σ, H', e, C, fp, rfl, I', F, fun b hb => I.fpX (H' := H') (hf b hb).1 (hf b hb).2, hw⟩
end L2
namespace L2
open PySem PySem.W PySem.Spec PySem.Calls PyProof.Rows
section
variable {prog : Program} {w : World} {A : Around} {E : Value → Shared → Prop} {s : Shared} {K : PySem.W.Frag} {e C : Addr} {oe : Obj}
end
end L2
namespace L2
open PySem PySem.W PySem.Spec PySem.Calls PyProof.Rows
structure XMake (K : PySem.W.Frag) (C : Addr) : Prop where
  ex : ∃ B nid iid bmB, ExcBaseFacts B nid iid bmB ∧ excIn K C bmB nid = true
theorem XMake.obj {K : PySem.W.Frag} {C : Addr} {h : Heap} (m : XMake K C) (X : K.In h) : ∃ B nid iid bmB, ExcBaseFacts B nid iid bmB ∧ ∃ bm ns nm qn bs hd sn sub ab col dd k0 k1 k2 k3 k5 mN,
    h.get? C = some (excClassObj nm qn C ns bs bm hd sn sub ab col dd k0 k1 k2 k3 k5 nid) ∧ h.Ns ns mN ∧ mN "__init__" = none ∧ OwnTail h bmB bm := by
  obtain ⟨B, nid, iid, bmB, F, z⟩ := m.ex
  refine ⟨B, nid, iid, bmB, F, ?_⟩
  unfold excIn at z
  split at z
  · rename_i d0 c0 s0 lk0
    split at z
    · rename_i A0 tl j0 j1 j2 j3 nm0 j5 hm0 hs0
      rw [Bool.and_eq_true, Bool.and_eq_true, Bool.and_eq_true, Bool.and_eq_true, Bool.and_eq_true] at z
      obtain ⟨⟨⟨⟨⟨z1, z2⟩, z3⟩, z4⟩, z5⟩, z6⟩ := z
      rw [beq_iff_eq.mp z1] at hm0
      rw [beq_iff_eq.mp z2] at hs0
      obtain ⟨n0, b0, r0, y0, q0, h0, t0, u0, a0, l0, del0⟩ := c0
      have e3 : del0 = false := by simpa using z3
      have e1 : r0 = .ref C :: tl := hm0
      have e2 : s0 = #[j0, j1, j2, j3, some (.builtin nid), j5] := by
        cases s0
        exact congrArg Array.mk hs0
      subst e1 e2 e3
      have g1 := Heap.Ns.of_isNs (isNs_of_in X z5)
      have g2 := nsMap_none_of_in X z5 (beq_iff_eq.mp z6)
      exact ⟨tl, y0, n0, q0, b0, h0, t0, u0, a0, l0, d0, j0, j1, j2, j3, j5, _, X _ _ lk0, g1, g2, tail_of_in X z4⟩
    · cases z
  · cases z
end L2
namespace L2
open PySem PySem.W PySem.Spec PySem.Calls PyProof.Rows
noncomputable abbrev Cx.suite (X : Cx) (pins : List (Addr × Obj)) (e : Addr) : Cx := { X with A := X.A.mark (some (.ref e)), calm := false, pn := X.pn ++ pins, xe := fun _ _ => False }
section
variable {X : Cx} {pins ps : List (Addr × Obj)} {σ : St} {H : Hp} {s : Shared} {Z : Value → Shared → Prop} {e : Addr}
theorem Inv.suite (I : Inv X pins σ H s) (e : Addr) (hz : (X.A.mark (some (.ref e))).frames = X.A.frames) : Inv (X.suite pins e) [] σ H s :=
  ⟨⟨I.ok.mod, I.ok.kind, I.ok.glob, I.ok.blt, I.ok.above, I.ok.inj, I.ok.has, I.ok.cab, fun z => (Bool.noConfusion z), hz.trans I.ok.frames, I.ok.stk, I.ok.exf, I.ok.bs, I.ok.bsz, I.ok.noex, I.ok.exfs, I.ok.funs, I.ok.frf⟩,
    I.os, I.bare, I.base, I.loc, I.cell, I.free, I.freeC, fun p hp => I.pin p (by simpa using hp), I.hok, I.len⟩
theorem Inv.forget (I : Inv X pins σ H s) : Inv X pins (List.replicate X.N.length none) H s :=
  I.weak (by rw [List.length_replicate]; exact I.len.symm) fun i v q => by
    rw [List.getElem?_replicate] at q
    split at q <;> cases q
end
end L2
namespace L2
open PySem PySem.Spec PyProof.Rows
noncomputable def Q0 (X : Cx) (N : List Str) (scope : Scope) (cl : List (Str × Addr)) (y : Str) (C : Addr) (s : Shared) (H : Hp) (fp : List Addr) : Cx :=
  { zR X N scope cl C s H fp with env := compEnvC scope ((y, C + 1) :: cl) C X.env, fn := fun x => x == y }
structure LcOkC (X : Cx) (N : List Str) (n : Nat) (js : List Nat) (scope : Scope) (cl : List (Str × Addr)) (y : Str) : Prop where
  clos : closureFor scope X.env = pure cl
  one : ∀ k, cellsFrom k scope.names cl = (y, k) :: cl
  onep : ∀ h : Heap, pushCells h scope.names = h.push { cls := .type "cell", data := .cell none }
  kind : scope.kind = .function
  names : ∀ y ∈ scope.names, y.2 = .local → scope.names.lookup y.1 = some .local
  cells : ∀ x c, cl.lookup x = some c → X.env.cells.lookup x = some c
  has : ∀ x, ((relabel scope X.env).names.lookup x = some .cell ∨ (relabel scope X.env).names.lookup x = some .free) → x = y ∨ ∃ c, cl.lookup x = some c
  len : n + js.length = N.length
  free : ∀ (i : Nat) (x : Str), N[n + i]? = some x → ∃ j c, js[i]? = some j ∧ X.N[j]? = some x ∧ (X.env.scope.names.lookup x = some .cell ∨ X.env.scope.names.lookup x = some .free) ∧
    ((relabel scope X.env).names.lookup x = some .cell ∨ (relabel scope X.env).names.lookup x = some .free) ∧ cl.lookup x = some c ∧ x ≠ y
theorem vX {cl : List (Str × Addr)} {y x : Str} {k c : Addr} (h : List.lookup x ((y, k) :: cl) = some c) : (x = y ∧ c = k) ∨ cl.lookup x = some c := by
  rw [List.lookup_cons] at h
  cases q : x == y with
  | true =>
    rw [q] at h
    exact .inl ⟨beq_iff_eq.mp q, (Option.some.inj h).symm⟩
  | false =>
    rw [q] at h
    exact .inr h
theorem Yw {cl : List (Str × Addr)} {y x : Str} {k : Addr} (h : x ≠ y) : List.lookup x ((y, k) :: cl) = cl.lookup x := by
  rw [List.lookup_cons, beq_eq_false_iff_ne.mpr h]
theorem vY {cl : List (Str × Addr)} {y : Str} {k : Addr} : List.lookup y ((y, k) :: cl) = some k := by
  rw [List.lookup_cons, beq_self_eq_true]
section
variable {X : Cx} {pins : List (Addr × Obj)} {σ : St} {H : Hp} {s : Shared} {N : List Str} {n : Nat} {js : List Nat} {scope : Scope} {cl : List (Str × Addr)} {y : Str}
theorem LcOkC.far (L : LcOkC X N n js scope cl y) {fp : List Addr} {C b c : Addr} {x : Str} {z : Nat} (hf : ∀ b ∈ fp, FpOk X pins H b) (hlt : b < z) (hb : b ∈ fp) (hC : z ≤ C) (e : List.lookup x ((y, C + 1) :: cl) = some c) : c ≠ b := by
  rcases vX e with ⟨_, q⟩ | q
  · rw [q]
    exact Nat.ne_of_gt (Nat.lt_of_lt_of_le hlt (Nat.le_succ_of_le hC))
  · exact (hf b hb).2.2.2.2.1 x c (L.cells x c q)
theorem LcOkC.low (L : LcOkC X N n js scope cl y) (I : Inv X pins σ H s) {x : Str} {c : Addr} (e : cl.lookup x = some c) : c < s.heap.objs.size := by
  obtain ⟨v, o, ho, _⟩ := I.cell x c (L.cells x c e)
  exact Heap.lt_size ho
theorem LcOkC.ok (L : LcOkC X N n js scope cl y) (I : Inv X pins σ H s) {fp : List Addr} (hf : ∀ b ∈ fp, FpOk X pins H b) (hlt : ∀ b ∈ fp, b < s.heap.objs.size) {C : Addr} (hC : s.heap.objs.size ≤ C) : (Q0 X N scope cl y C s H fp).Ok where
  mod := I.ok.mod
  kind := L.kind
  glob := I.ok.glob
  blt := I.ok.blt
  above := hC
  inj := fun x x' c h1 h2 => by
    rcases vX h1 with ⟨e1, q1⟩ | q1 <;> rcases vX h2 with ⟨e2, q2⟩ | q2
    · rw [e1, e2]
    · exact absurd (Nat.lt_of_lt_of_le (L.low I q2) hC) (by rw [q1]; exact Nat.not_lt.mpr (Nat.le_succ C))
    · exact absurd (Nat.lt_of_lt_of_le (L.low I q1) hC) (by rw [q2]; exact Nat.not_lt.mpr (Nat.le_succ C))
    · exact I.ok.inj x x' c (L.cells x c q1) (L.cells x' c q2)
  has := fun x hx => by
    rcases L.has x hx with e | ⟨c, e⟩
    · rw [e]
      exact ⟨_, vY⟩
    · by_cases q : x = y
      · rw [q]
        exact ⟨_, vY⟩
      · exact ⟨c, (Yw q).trans e⟩
  cab := fun x c hx e => by
    have hx : x = y := beq_iff_eq.mp hx
    rw [hx] at e
    cases (vY.symm.trans e)
    exact Nat.le_succ_of_le hC
  hd := I.ok.hd
  frames := I.ok.frames
  stk := .inl rfl
  exf := fun b hb => ⟨Nat.ne_of_lt (Nat.lt_of_lt_of_le (hlt b hb) hC), fun x c e => L.far hf (hlt b hb) hb hC e⟩
  bs := I.bs
  bsz := Nat.le_trans I.ok.bsz I.sz
  noex := fun b o e hb => by
    rcases (hf b hb).2.2.2.1 with z | z
    · exact I.ok.noex b o e z
    · exact absurd (Nat.lt_of_lt_of_le (Heap.lt_size (I.ok.bs b o e).1) z) (Nat.lt_irrefl _)
  exfs := fun b hb hz => by
    rcases List.mem_cons.mp (I.stkSub b hz) with z | z
    · exact (hf b hb).2.1 z
    · exact (hf b hb).2.2.1 z
  funs := I.stack
  frf := I.stkFree
end
end L2
namespace L2
open PySem PySem.Spec PyProof.Rows
section
variable {κ : Type} [DecidableEq κ]
noncomputable def yT (kvs : List (κ × V)) (k : κ) : Option V := (kvs.find? fun kv => decide (kv.1 = k)).map (·.2)
noncomputable def vd (kvs : List (κ × V)) (k : κ) (v : V) : List (κ × V) :=
  if (kvs.any fun kv => decide (kv.1 = k)) = true then kvs.map (fun kv => if kv.1 = k then (kv.1, v) else kv) else kvs ++ [(k, v)]
noncomputable def XB (kvs : List (κ × V)) (k : κ) : List (κ × V) := kvs.filter fun kv => decide (kv.1 ≠ k)
theorem vZ {p : κ × V} {r : List (κ × V)} {k : κ} (e : p.1 = k) : yT (p :: r) k = some p.2 := by simp [yT, List.find?_cons, e]
theorem v0 {p : κ × V} {r : List (κ × V)} {k : κ} (e : ¬ p.1 = k) : yT (p :: r) k = yT r k := by simp [yT, List.find?_cons, e]
theorem qV (k : κ) : ∀ kvs : List (κ × V), (kvs.any fun kv => decide (kv.1 = k)) = (yT kvs k).isSome
  | [] => rfl
  | p :: r => by
    rw [List.any_cons]
    by_cases e : p.1 = k
    · simp only [vZ e, decide_eq_true e, Bool.true_or, Option.isSome_some]
    · rw [v0 e, decide_eq_false e, Bool.false_or]; exact qV k r
theorem yo.isSome_eq {o : Option V} {u : Option Value} (r : yo o u) : o.isSome = u.isSome := by
  cases o with
  | none => cases u with
    | none => rfl
    | some _ => exact (show False from r).elim
  | some _ => cases u with
    | none => exact (show False from r).elim
    | some _ => rfl
theorem yo.getD {o : Option V} {u : Option Value} {d : V} {d' : Value} (r : yo o u) (rd : RelV d d') : RelV (o.getD d) (u.getD d') := by
  cases o with
  | none => cases u with
    | none => exact rd
    | some _ => exact (show False from r).elim
  | some _ => cases u with
    | none => exact (show False from r).elim
    | some _ => exact r
theorem KV.val {kvs : List (κ × V)} {vs : List (κ × Value)} (r : KV kvs vs) (k : κ) : yo (yT kvs k) (valueAt vs k) := by
  unfold KV at r
  induction r with
  | nil => exact True.intro
  | @cons p q ps qs h t ih =>
    obtain ⟨h1, h2⟩ := h
    by_cases e : p.1 = k
    · have e' : q.1 = k := h1.symm.trans e
      have b : valueAt (q :: qs) k = some q.2 := by simp [valueAt, List.find?_cons, e']
      rw [vZ e, b]; exact h2
    · have e' : ¬ q.1 = k := fun z => e (h1.trans z)
      have b : valueAt (q :: qs) k = valueAt qs k := by simp [valueAt, List.find?_cons, e']
      rw [v0 e, b]; exact ih
theorem KV.any {kvs : List (κ × V)} {vs : List (κ × Value)} (r : KV kvs vs) (k : κ) : (kvs.any fun kv => decide (kv.1 = k)) = vs.any fun kv => decide (kv.1 = k) := by
  unfold KV at r
  induction r with
  | nil => rfl
  | cons h t ih => rw [List.any_cons, List.any_cons, ih, h.1]
theorem KV.repl {kvs : List (κ × V)} {vs : List (κ × Value)} (r : KV kvs vs) (k : κ) {y : V} {u : Value} (ry : RelV y u) :
    KV (kvs.map fun kv => if kv.1 = k then (kv.1, y) else kv) (vs.map fun kv => if kv.1 = k then (kv.1, u) else kv) := by
  unfold KV at r ⊢
  induction r with
  | nil => exact .nil
  | @cons p q ps qs h t ih =>
    rw [List.map_cons, List.map_cons]
    refine .cons ?_ ih
    obtain ⟨h1, h2⟩ := h
    by_cases e : p.1 = k
    · rw [if_pos e, if_pos (h1.symm.trans e)]; exact ⟨h1, ry⟩
    · rw [if_neg e, if_neg (fun z => e (h1.trans z))]; exact ⟨h1, h2⟩
theorem KV.put {kvs : List (κ × V)} {vs : List (κ × Value)} (r : KV kvs vs) (k : κ) {y : V} {u : Value} (ry : RelV y u) : KV (vd kvs k y) (stored vs k u) := by
  unfold vd stored
  rw [r.any k]
  by_cases e : (vs.any fun kv => decide (kv.1 = k)) = true
  · rw [if_pos e, if_pos e]; exact r.repl k ry
  · rw [if_neg e, if_neg e]; exact Paired.snoc r ⟨rfl, ry⟩
theorem KV.drop {kvs : List (κ × V)} {vs : List (κ × Value)} (r : KV kvs vs) (k : κ) : KV (XB kvs k) (without vs k) := by
  unfold KV at r ⊢
  unfold XB without
  induction r with
  | nil => exact .nil
  | @cons p q ps qs h t ih =>
    obtain ⟨h1, h2⟩ := h
    rw [List.filter_cons, List.filter_cons]
    by_cases e : p.1 = k
    · have a : ¬ decide (p.1 ≠ k) = true := by simp [e]
      have b : ¬ decide (q.1 ≠ k) = true := by simp [h1.symm.trans e]
      rw [if_neg a, if_neg b]; exact ih
    · have e' : ¬ q.1 = k := fun z => e (h1.trans z)
      have a : decide (p.1 ≠ k) = true := by simp [e]
      have b : decide (q.1 ≠ k) = true := by simp [e']
      rw [if_pos a, if_pos b]; exact .cons ⟨h1, h2⟩ ih
theorem KV.keys {kvs : List (κ × V)} {vs : List (κ × Value)} (r : KV kvs vs) : kvs.map (·.1) = vs.map (·.1) := by
  unfold KV at r
  induction r with
  | nil => rfl
  | cons h t ih => rw [List.map_cons, List.map_cons, ih, h.1]
theorem KV.length {kvs : List (κ × V)} {vs : List (κ × Value)} (r : KV kvs vs) : kvs.length = vs.length := Paired.length r
end
noncomputable abbrev KT (H : Hp) : List (List Key × V) → List (List Key × Addr × Value) → Prop := Paired fun p q => p.1 = q.1 ∧ H q.2.1 = some (.tup (p.1.map kV)) ∧ RelV p.2 q.2.2
theorem KT.val {H : Hp} {kvs : List (List Key × V)} {xs : List (List Key × Addr × Value)} (r : KT H kvs xs) (k : List Key) : yo (yT kvs k) ((atKey xs k).map (·.2)) := by
  induction r with
  | nil => exact True.intro
  | @cons p q ps qs h t ih =>
    obtain ⟨h1, _, h2⟩ := h
    by_cases e : p.1 = k
    · have e' : q.1 = k := h1.symm.trans e
      have b : atKey (q :: qs) k = some q.2 := by simp [atKey, List.find?_cons, e']
      rw [vZ e, b]; exact h2
    · have e' : ¬ q.1 = k := fun z => e (h1.trans z)
      have b : atKey (q :: qs) k = atKey qs k := by simp [atKey, List.find?_cons, e']
      rw [v0 e, b]; exact ih
theorem KT.repl {H : Hp} {kvs : List (List Key × V)} {xs : List (List Key × Addr × Value)} (r : KT H kvs xs) (k : List Key) {y : V} {u : Value} (ry : RelV y u) :
    KT H (kvs.map fun kv => if kv.1 = k then (kv.1, y) else kv) (xs.map (putAt k u)) := by
  induction r with
  | nil => exact .nil
  | @cons p q ps qs h t ih =>
    rw [List.map_cons, List.map_cons]
    refine .cons ?_ ih
    obtain ⟨h1, h2, h3⟩ := h
    unfold putAt
    by_cases e : p.1 = k
    · rw [if_pos e, if_pos (h1.symm.trans e)]; exact ⟨h1, h2, ry⟩
    · rw [if_neg e, if_neg (fun z => e (h1.trans z))]; exact ⟨h1, h2, h3⟩
theorem KT.put {H : Hp} {kvs : List (List Key × V)} {xs : List (List Key × Addr × Value)} (r : KT H kvs xs) (k : List Key) {b : Addr} {y : V} {u : Value} (hb : H b = some (.tup (k.map kV))) (ry : RelV y u) :
    KT H (vd kvs k y) (storedH xs k b u) := by
  have e : (kvs.any fun kv => decide (kv.1 = k)) = (atKey xs k).isSome := by
    rw [qV, (r.val k).isSome_eq, Option.isSome_map]
  unfold vd storedH
  rw [e]
  by_cases q : (atKey xs k).isSome = true
  · rw [if_pos q, if_pos q]; exact r.repl k ry
  · rw [if_neg q, if_neg q]; exact Paired.snoc r ⟨rfl, hb, ry⟩
theorem KT.keeps {H H' : Hp} {kvs : List (List Key × V)} {xs : List (List Key × Addr × Value)} (r : KT H kvs xs) (ht : ∀ b ys, H b = some (.tup ys) → H' b = some (.tup ys)) : KT H' kvs xs :=
  Paired.mapP r fun _ _ z => ⟨z.1, ht _ _ z.2.1, z.2.2⟩
section
variable {P : Program} {w : World} {H : Hp} {h : Heap} {a : Addr}
end
noncomputable def ky (H : Hp) (a : Addr) (y : V) (r : Option V) : Prop :=
  (∃ kvs k, Rd H a (.dK kvs) ∧ y = kV k ∧ r = yT kvs k) ∨ ∃ kvs k b, Rd H a (.dT kvs) ∧ y = .ref b ∧ H b = some (.tup (k.map kV)) ∧ r = yT kvs k
noncomputable def kz (H : Hp) (a : Addr) (y v : V) (H' : Hp) : Prop :=
  (∃ kvs k, H a = some (.dK kvs) ∧ y = kV k ∧ kvs.length < sizeLine ∧ H' = upd H a (.dK (vd kvs k v))) ∨
  ∃ kvs k b, H a = some (.dT kvs) ∧ y = .ref b ∧ H b = some (.tup (k.map kV)) ∧ kvs.length < sizeLine ∧ H' = upd H a (.dT (vd kvs k v))
theorem ky.k {H : Hp} {a : Addr} {kvs : List (Key × V)} {k : Key} (e : H a = some (.dK kvs)) : ky H a (kV k) (yT kvs k) := .inl ⟨kvs, k, .inl e, rfl, rfl⟩
theorem ky.t {H : Hp} {a b : Addr} {kvs : List (List Key × V)} {k : List Key} (e : H a = some (.dT kvs)) (eb : H b = some (.tup (k.map kV))) : ky H a (.ref b) (yT kvs k) := .inr ⟨kvs, k, b, .inl e, rfl, eb, rfl⟩
theorem kz.k {H : Hp} {a : Addr} {kvs : List (Key × V)} {k : Key} {v : V} (e : H a = some (.dK kvs)) (hl : kvs.length < sizeLine) : kz H a (kV k) v (upd H a (.dK (vd kvs k v))) := .inl ⟨kvs, k, e, rfl, hl, rfl⟩
theorem kz.t {H : Hp} {a b : Addr} {kvs : List (List Key × V)} {k : List Key} {v : V} (e : H a = some (.dT kvs)) (eb : H b = some (.tup (k.map kV))) (hl : kvs.length < sizeLine) :
    kz H a (.ref b) v (upd H a (.dT (vd kvs k v))) := .inr ⟨kvs, k, b, e, rfl, eb, hl, rfl⟩
section
variable {X : Cx} {pins : List (Addr × Obj)} {σ : St} {H : Hp} {s : Shared} {a : Addr} {y v : V} {u r : Value} {o : Option V} {A : Around} {E : Value → Shared → Prop}
theorem Inv.big (I : Inv X pins σ H s) : sysModules < s.heap.objs.size := by
  have h : mainGlobals < s.heap.objs.size := (I.mod.glob.keeps I.bk).lt
  exact Nat.lt_trans (by decide) h
end
section
variable {X : Cx} {pins : List (Addr × Obj)} {σ : St} {H : Hp} {s : Shared} {a : Addr} {kvs : List (Key × V)} {k : Key} {u : Value} {A : Around} {E : Value → Shared → Prop}
end
section
variable {X : Cx} {o i e value : Expr} {pos pos' tpos : Pos} {td ty tv : TE}
end
section
variable {X : Cx} {pos : Pos}
end
section
variable {X : Cx} {pins : List (Addr × Obj)} {σ : St} {H : Hp} {s : Shared} {a : Addr} {y d : V} {u r : Value} {o : Option V} {A : Around} {E : Value → Shared → Prop}
end
section
variable {X : Cx} {o e f : Expr} {apos cpos : Pos} {td ty tx : TE}
end
section
variable {X : Cx} {pins : List (Addr × Obj)} {σ : St} {H : Hp} {s : Shared} {a : Addr} {kvs : List (Key × V)} {A : Around} {E : Value → Shared → Prop}
end
section
variable {X : Cx} {pins : List (Addr × Obj)} {σ : St} {H : Hp} {s : Shared} {a : Addr} {y : V} {u : Value} {A : Around} {E : Value → Shared → Prop}
end
end L2
namespace PySem
section
variable {prog : Program} {w : World} {A : Around} {E : Value → Shared → Prop} {s : Shared}
end
section
variable {prog : Program} {w : World} {A : Around} {K : Type} [DecidableEq K] {knd : KeyKind prog w K}
end
end PySem
namespace PySem
open PySem PySem.W PySem.Calls PyProof.Rows
section
variable {prog : Program} {w : World} {A : Around} {E : Value → Shared → Prop} {s : Shared} {T : String} {r d : Addr} {n : Nat} {P : Nat → Value → Prop} {OK : Heap → Prop}
end
end PySem
namespace L2
open PySem PySem.Spec PyProof.Rows
theorem Inv.turnedL {X : Cx} {pins : List (Addr × Obj)} {σ : St} {H : Hp} {s : Shared} {h' : Heap} {t' : Nat} {fp : List Addr} (I : Inv X pins σ H s) (k : ∀ b o, b ∉ fp → s.heap.get? b = some o → h'.get? b = some o)
    (hf : ∀ b ∈ fp, FpOk X pins H b) : Inv X pins σ H { s with heap := h', toks := t' } := by
  have nit : ∀ b u, H b = some u → b ∉ fp := fun b u e z => by rw [(hf b z).1] at e; cases e
  refine I.step (g' := s.gens) (d' := s.drawn) (ch := fp) (fun b hb => ?_) (fun b o _ _ hc e _ => k b o hc e) (fun b o _ _ hc e _ => ⟨o.slots, k b o hc e⟩) (fun _ _ _ _ n => n)
    (fun b o hc e => ⟨o, k b o hc e⟩) (fun _ _ e => e) (fun _ _ _ e => e) (fun b ps e => ⟨#[], by rw [e]; simp⟩) (fun m hm => ?_) (fun b u e => ?_) I.bare
  · obtain ⟨f0, f1, f2, f3, f4, f5⟩ := hf b hb
    exact ⟨f3, f1, f4, f5⟩
  · obtain ⟨o, es, ep, ho, r⟩ := hm
    exact ⟨o, es, ep, k _ o (fun z => (hf _ z).2.1 rfl) ho, r⟩
  · refine (I.hok b u e).stay (fun c v hc q => k c v ?_ q) (fun _ q => q) fun _ _ q => q
    rcases hc with z | z
    · rw [z]; exact nit b u e
    · exact nit c _ z
noncomputable def Ite (K : PySem.W.Frag) (a : Addr) : It :=
  ⟨fun i H => ∃ xs x, SqL K H a xs ∧ xs[i]? = some x, fun i H x H' => ∃ t y, x = .ref t ∧ H t = none ∧ H' = upd H t (.tup [.int i, y]) ∧ ∀ xs, SqL K H a xs → xs[i]? = some y, fun i H => ∃ xs, SqL K H a xs ∧ xs.length ≤ i⟩
theorem Zv {P : Program} {w : World} {K : PySem.W.Frag} {es : List Expr} {k : Nat} {pos : Pos} (a e it : Addr) (hne : e ≠ it) :
    Turn P w K (.Tuple es k pos) (Ite K a) [e, it] e (fun i h => (∃ old, IsEnum h e it (i : Nat) old) ∧ h.IsListIter it a i) where
  mem := by simp
  obj := fun i h st b hb => by
    obtain ⟨⟨old, he⟩, o, e1, c, d⟩ := st
    have hb' : b = e ∨ b = it := by simpa using hb
    rcases hb' with rfl | rfl
    · exact ⟨_, he, fun v z => by
        have z' : Data.fields _ = Data.cell v := z
        cases z'⟩
    · exact ⟨o, e1, fun v z => by rw [d] at z; cases z⟩
  keep := fun i h h' st k => ⟨st.1.elim fun old he => ⟨old, k e (by simp) _ he⟩, st.2.at fun o q => k it (by simp) o q⟩
  item := by
    intro X hP hw hK hc i pins s σ H E I hf st hg
    subst hP hw hK
    obtain ⟨⟨old, he⟩, hit⟩ := st
    obtain ⟨xs, x, hq, hx⟩ := hg
    obtain ⟨its, rv, p, hz⟩ := I.list hq
    obtain ⟨u, hu, ru⟩ := rv.get hx
    refine wpAny_pyNext_enum_item he hit p.isList (x := u) (by simpa using hu) hne fun h' he' hit' ht hsz kk => ?_
    refine ⟨_, rfl, wpAny_letOwnedTupleGo_enum he' fun h2 he2 sb => ?_⟩
    have hn := I.hok.fresh (Nat.le_refl s.heap.objs.size)
    have I1 : Inv X pins σ (upd H s.heap.objs.size (.tup [.int i, x])) { s with heap := s.heap.push { cls := .type "tuple", data := .seq [Value.int i s.toks, u].toArray }, toks := s.toks + 1 } :=
      I.laid (fun b o e => Heap.get?_push_of_some _ e) (Nat.le_refl _) ⟨by show 2 ≤ sizeLine; decide, [Value.int i s.toks, u], .cons ⟨_, rfl⟩ (.cons ru .nil), IsTup.new s.heap _⟩
    have lt : ∀ b ∈ [e, it], b ≠ s.heap.objs.size := fun b hb => by
      have hb' : b = e ∨ b = it := by simpa using hb
      rcases hb' with rfl | rfl
      · exact Nat.ne_of_lt (Heap.lt_size he)
      · obtain ⟨o, e1, _⟩ := hit
        exact Nat.ne_of_lt (Heap.lt_size e1)
    have nt : ∀ b ∈ [e, it], upd H s.heap.objs.size (.tup [.int i, x]) b = none := fun b hb => by rw [za (lt b hb)]; exact (hf b hb).1
    have I2 := I1.turnedL (h' := h2) (t' := s.toks + 1) (fp := [e, it]) (fun b o hb q => by
      have h1 : b ≠ e := fun z => hb (by simp [z])
      have h2' : b ≠ it := fun z => hb (by simp [z])
      by_cases hbz : b = s.heap.objs.size
      · subst hbz
        have q' : (s.heap.push { cls := .type "tuple", data := .seq #[Value.int i s.toks, u] }).get? s.heap.objs.size = some o := q
        rw [Heap.get?_push_size s.heap (o := { cls := .type "tuple", data := .seq #[Value.int i s.toks, u] }) rfl] at q'
        exact (sb.2 _ h1).trans (ht.trans q')
      · have q' : (s.heap.push { cls := .type "tuple", data := .seq #[Value.int i s.toks, u] }).get? b = some o := q
        rw [Heap.get?_push_ne _ _ _ hbz] at q'
        exact (sb.2 b h1).trans (kk b o h1 h2' q')) fun b hb => ⟨nt b hb, (hf b hb).2⟩
    have ei : ((i : Int) + 1) = (((i + 1 : Nat)) : Int) := by omega
    refine ⟨.ref s.heap.objs.size, _, I2, rfl, ⟨_, x, rfl, hn, rfl, fun ys hy => by rw [I.list_inj hy hq]; exact hx⟩, ⟨⟨_, ei ▸ he2⟩, hit'.at fun o q => (sb.2 it (Ne.symm hne)).trans q⟩, nt⟩
  done := by
    intro X hP hw hK hc i pins s σ H E I hf st hg
    subst hP hw hK
    obtain ⟨⟨old, he⟩, hit⟩ := st
    obtain ⟨xs, hq, hx⟩ := hg
    obtain ⟨its, rv, p, hz⟩ := I.list hq
    have hl := rv.length
    obtain ⟨f0, f1, f2, f3, f4, f5⟩ := hf it (by simp)
    exact wpAny_pyNext_enum_end (I.ok.hd hc) he hit p.isList (by simp; omega) fun h' eb => ⟨rfl, I.turned (t' := s.toks) (fun b o hb e => eb b o hb e) f0 f1 f3 f4 f5⟩
  self := fun _ _ _ _ _ st h => st.1.elim fun old he => wpAny_pyIter_enum he h
noncomputable def kA (K : PySem.W.Frag) (ta : TA) : TI := fun σ H R => ta σ H fun vs H1 => ∃ a, vs = [.ref a] ∧ (∃ xs, SqL K H1 a xs) ∧ R (Ite K a) H1
section
variable {X : Cx}
theorem Vw {es : List Expr} {k : Nat} {tp : Pos} {l : Expr} {ta : TA} {p pos : Pos} (hg : Gl X "enumerate") (hm : X.mg "enumerate" = none) (ha : PA X [l] ta) (hs : starEach [l] X.env = [(false, eval l X.env)] := by rfl) :
    PI X (.Tuple es k tp) (.Call (.Name "enumerate" p) [l] [] pos) (kA X.K ta) := by
  intro pins s σ H R I h
  refine Call_ (x5 I hg hm boot_enumerate (PyProof.Rows.callWith_type1 (thn (ha pos pins s σ H _ I h) fun us s1 ⟨vs, H1, I1, r1, q1⟩ => ?_) hs rfl))
  obtain ⟨a, e, ⟨xs, hq⟩, q⟩ := q1
  subst e
  cases r1 with
  | cons r rr =>
    cases rr
    cases r
    obtain ⟨its, rv, p, hz⟩ := I1.list hq
    refine call_enumerate_list p.isList fun h' hE hI hsz hk => wpAny_pyIter_enum hE ?_
    refine ⟨s1.heap.objs.size + 1, [s1.heap.objs.size + 1, s1.heap.objs.size], _, _, H1, rfl, I1.kept (t' := s1.toks) hk, Zv a _ _ (Nat.succ_ne_self _), ⟨⟨_, hE⟩, hI⟩, fun b hb => ?_, q⟩
    have hb' : b = s1.heap.objs.size + 1 ∨ b = s1.heap.objs.size := by simpa using hb
    rcases hb' with rfl | rfl
    · exact I1.fpOk (Nat.le_succ _) (I1.hok.fresh (Nat.le_succ _))
    · exact I1.fpOk (Nat.le_refl _) (I1.hok.fresh (Nat.le_refl _))
end
noncomputable def XC (K : PySem.W.Frag) (a : Addr) (g : TG) (tb : TS) (D : Ends) (σ : St) (H : Hp) : Prop := ∃ W : Nat → Nat → St → Hp → Prop, (∃ m, W 0 m σ H) ∧ ∀ i m σ H, W i m σ H →
  ((Ite K a).stop i H ∧ D.nx σ H) ∨ ((Ite K a).go i H ∧ ∃ N : St → Hp → Prop, (∀ σ' H', N σ' H' → ∃ m', m' < m ∧ W (i + 1) m' σ' H') ∧ ∀ x H', (Ite K a).yld i H x H' → g x σ H' fun σ2 H2 => tb { D with nx := N, ct := N, bk := D.nx } σ2 H2)
theorem XC.run {K : PySem.W.Frag} {a : Addr} {xs : List V} {g : TG} {tb : TS} {D : Ends} {σ : St} {H : Hp} (Pv : Nat → St → Hp → Prop) (h0 : Pv 0 σ H) (hl : ∀ i σ H, i ≤ xs.length → Pv i σ H → SqL K H a xs)
    (hs : ∀ i x σ H t, xs[i]? = some x → Pv i σ H → H t = none → ∀ R : St → Hp → Prop, (∀ σ' H', Pv (i + 1) σ' H' → R σ' H') → g (.ref t) σ (upd H t (.tup [.int i, x])) fun σ2 H2 => tb { D with nx := R, ct := R, bk := D.nx } σ2 H2) (hd : ∀ σ H, Pv xs.length σ H → D.nx σ H) :
    XC K a g tb D σ H := by
  refine ⟨fun i m σ H => m = xs.length - i ∧ i ≤ xs.length ∧ Pv i σ H, ⟨xs.length, by simp, Nat.zero_le _, h0⟩, ?_⟩
  rintro i m σ H ⟨rfl, hi, p⟩
  have q := hl i σ H hi p
  by_cases hlt : i < xs.length
  · refine .inr ⟨⟨xs, xs[i], q, by simp [hlt]⟩, Pv (i + 1), fun σ' H' p' => ⟨xs.length - (i + 1), by omega, rfl, hlt, p'⟩, ?_⟩
    rintro _ _ ⟨t, y, rfl, ht, rfl, hy⟩
    exact hs i y σ H t (hy xs q) p ht _ fun _ _ z => z
  · have e : i = xs.length := by omega
    subst e
    exact .inl ⟨⟨xs, q, Nat.le_refl _⟩, hd σ H p⟩
end L2
namespace L2
open PySem PySem.Spec PyProof.Rows
section
variable {X : Cx} {tg : Expr}
noncomputable def R3 (i j c : Int) (n : Nat) : Prop := c ≠ 0 ∧ Builtin.Range.small i j c = true ∧ Builtin.Range.rangeSize i j c = n ∧ Builtin.divisionGoesByPylong (j - i) c = false
end
section
variable {X : Cx}
noncomputable def yN (K : PySem.W.Frag) (H : Hp) : List V → List (Key × V) → Prop := Paired fun y kv => ∃ t, y = .ref t ∧ SqT K H t [kV kv.1, kv.2]
theorem yN.get {K : PySem.W.Frag} {H : Hp} : ∀ {ys : List V} {kvs : List (Key × V)} {j : Nat} {kv : Key × V}, yN K H ys kvs → kvs[j]? = some kv → ∃ t, ys[j]? = some (.ref t) ∧ SqT K H t [kV kv.1, kv.2]
  | _, _, _, _, .nil, e => by simp at e
  | _, _, 0, _, .cons r _, e => by
    simp at e
    subst e
    obtain ⟨t, rfl, h⟩ := r
    exact ⟨t, rfl, h⟩
  | _, _, j + 1, kv, .cons _ q, e => by
    obtain ⟨t, h1, h2⟩ := yN.get (j := j) (kv := kv) q (by simpa using e)
    exact ⟨t, by simpa using h1, h2⟩
theorem yN.snoc {K : PySem.W.Frag} {H : Hp} {y : V} {kv : Key × V} (hy : ∃ t, y = .ref t ∧ SqT K H t [kV kv.1, kv.2]) : ∀ {ys : List V} {kvs : List (Key × V)}, yN K H ys kvs → yN K H (ys ++ [y]) (kvs ++ [kv])
  | _, _, .nil => .cons hy .nil
  | _, _, .cons r q => .cons r (yN.snoc hy q)
theorem yN.keep {K : PySem.W.Frag} {H H' : Hp} {ys : List V} {kvs : List (Key × V)} (h : yN K H ys kvs) (k : ∀ b xs, SqT K H b xs → SqT K H' b xs) : yN K H' ys kvs :=
  Paired.imp' (fun y kv ⟨t, e, q⟩ => ⟨t, e, k t _ q⟩) h
end
end L2
namespace L2
open PySem PySem.Spec PyProof.Rows
section
variable {X : Cx} {pos : Pos}
end
structure CalM (P : Program) (w : World) (K : PySem.W.Frag) (mg : Str → Option Value) (base : Heap) (k : Nat) (x : Str) (C : Addr) (sp : Sp) : Prop where
  ex : ∃ (f : Addr) (fd : FuncData) (ps : List Str), Mk K C f ∧ FnOk P w K mg base CX0 k f fd ps sp ∧ mg x = some (.ref C) ∧ Binds K fd ps []
section
variable {X : Cx} {k : Nat} {sp : Sp} {C : Addr} {x : Str} {p pos : Pos} {e : Expr} {es : List Expr} {t : TA}
end
noncomputable def Itf (f : Nat → Int) (n : Nat) : It := ⟨fun i _ => i < n, fun i H x H' => H' = H ∧ x = .int (f i), fun i _ => n ≤ i⟩
noncomputable def LcF (n0 : Nat) (f : Nat → Int) (g : TG) (tt : TT) (te : TE) (σ0 : St) (H1 : Hp) (Q : VK) : Prop := ∀ D, H1 D = none → ∃ W : Nat → Nat → St → Hp → Prop, (∃ m, W 0 m σ0 (upd H1 D (.lst []))) ∧ ∀ i m σ' H', W i m σ' H' →
  ((Itf f n0).stop i H' ∧ Q (.ref D) H') ∨ ((Itf f n0).go i H' ∧ ∃ Nx : St → Hp → Prop, (∀ σ2 H2, Nx σ2 H2 → ∃ m', m' < m ∧ W (i + 1) m' σ2 H2) ∧
    ∀ x H2, (Itf f n0).yld i H' x H2 → g x σ' H2 fun σ3 H3 => tt σ3 H3 fun ok H4 => if ok = true then te σ3 H4 fun y H5 => ∃ ys, H5 D = some (.lst ys) ∧ ys.length < sizeLine ∧ Nx σ3 (upd H5 D (.lst (ys ++ [y]))) else Nx σ3 H4)
theorem LcF.by {n0 : Nat} {f : Nat → Int} {g : TG} {tt : TT} {te : TE} {σ0 : St} {H1 : Hp} {Q : VK} (Pv : Addr → Nat → St → Hp → Prop) (h0 : ∀ D, H1 D = none → Pv D 0 σ0 (upd H1 D (.lst [])))
    (hs : ∀ D i σ H, H1 D = none → i < n0 → Pv D i σ H → g (.int (f i)) σ H fun σ3 H3 => tt σ3 H3 fun ok H4 => if ok = true then te σ3 H4 fun y H5 => ∃ ys, H5 D = some (.lst ys) ∧ ys.length < sizeLine ∧ Pv D (i + 1) σ3 (upd H5 D (.lst (ys ++ [y]))) else Pv D (i + 1) σ3 H4)
    (hd : ∀ D σ H, H1 D = none → Pv D n0 σ H → Q (.ref D) H) : LcF n0 f g tt te σ0 H1 Q := by
  intro D hD
  refine ⟨fun i m σ H => m = n0 - i ∧ i ≤ n0 ∧ Pv D i σ H, ⟨n0, by simp, Nat.zero_le _, h0 D hD⟩, ?_⟩
  rintro i m σ H ⟨rfl, hi, p⟩
  by_cases hlt : i < n0
  · refine .inr ⟨hlt, Pv D (i + 1), fun σ' H' p' => ⟨n0 - (i + 1), by omega, rfl, hlt, p'⟩, fun x H' y => ?_⟩
    obtain ⟨e, y⟩ := y
    subst e y
    exact hs D i σ _ hD hlt p
  · have e : i = n0 := by omega
    subst e
    exact .inl ⟨Nat.le_refl _, hd D σ H hD p⟩
end L2
namespace L2
open PySem PySem.Spec PyProof.Rows
theorem XD {X : Cx} {x : Str} {i : Int} {pos : Pos} (hg : Gl X x) (h : ∃ t, X.mg x = some (.int i t)) (hd : (x == ("__debug__" : Str)) = false := by decide) : PE X (.Name x pos) (tC (.int i)) := by
  obtain ⟨t, e⟩ := h
  exact jI hg e ⟨t, rfl⟩ hd
noncomputable def XE (K : PySem.W.Frag) (a : Addr) (g : TG) (tb : TS) (D : Ends) (σ : St) (H : Hp) : Prop := ∃ W : Nat → Nat → St → Hp → Prop, (∃ m, W 0 m σ H) ∧ ∀ i m σ H, W i m σ H →
  ((Itt K a).stop i H ∧ D.nx σ H) ∨ ((Itt K a).go i H ∧ ∃ N : St → Hp → Prop, (∀ σ' H', N σ' H' → ∃ m', m' < m ∧ W (i + 1) m' σ' H') ∧ ∀ x H', (Itt K a).yld i H x H' → g x σ H' fun σ2 H2 => tb { D with nx := N, ct := N, bk := D.nx } σ2 H2)
theorem XE.run {K : PySem.W.Frag} {a : Addr} {xs : List V} {g : TG} {tb : TS} {D : Ends} {σ : St} {H : Hp} (Pv : Nat → St → Hp → Prop) (h0 : Pv 0 σ H) (hl : ∀ i σ H, i ≤ xs.length → Pv i σ H → SqT K H a xs)
    (hs : ∀ i x σ H, xs[i]? = some x → Pv i σ H → ∀ R : St → Hp → Prop, (∀ σ' H', Pv (i + 1) σ' H' → R σ' H') → g x σ H fun σ2 H2 => tb { D with nx := R, ct := R, bk := D.nx } σ2 H2) (hd : ∀ σ H, Pv xs.length σ H → D.nx σ H) : XE K a g tb D σ H :=
  Vf Pv h0 hl (fun i x σ H hi p => hs i x σ H hi p _ fun _ _ z => z) hd
end L2
namespace L2
open PySem PySem.Spec PyProof.Rows
noncomputable def cE : Expr → Option V
  | .Constant (.int i) _ _ => some (.int i)
  | .Constant .none _ _ => some .non
  | .Constant (.bool b) _ _ => some (.bl b)
  | .Constant (.str x) _ _ => some (.str x)
  | _ => none
noncomputable def kB : List Expr → Option (List V)
  | [] => some []
  | e :: es => match cE e, kB es with
    | some v, some vs => some (v :: vs)
    | _, _ => none
noncomputable def tCs (vs : List V) : TA := fun _ H Q => Q vs H
theorem Q2 {X : Cx} {e : Expr} {v : V} (h : cE e = some v) : PE X e (tC v) := by
  unfold cE at h
  split at h
  · cases h; exact zf
  · cases h; exact yz
  · cases h; exact yX
  · cases h; exact zd
  · cases h
theorem Vx {e : Expr} {v : V} (h : cE e = some v) : qT e = true := by
  unfold cE at h
  split at h <;> first | rfl | cases h
theorem Zw {X : Cx} : ∀ {es : List Expr} {vs : List V}, kB es = some vs → QA X es (tCs vs)
  | [], vs, h => by
    cases h
    exact qn
  | e :: es, vs, h => by
    simp only [kB] at h
    split at h
    · rename_i v ws h1 h2
      cases h
      exact qc (Q2 h1) (Zw h2) (Vx h1)
    · cases h
theorem Vy {X : Cx} {es : List Expr} {vs : List V} {pos : Pos} (h : kB es = some vs) : PE X (.List es pos) (qN (tCs vs)) := yf (Zw h)
end L2
namespace L2
open PySem PySem.W PySem.Calls PyProof.Rows
section
variable {X : Cx}
end
end L2
namespace PySem
open PySem PySem.W PySem.Calls PyProof.Rows
section
variable {prog : Program} {w : World} {A : Around} {R : Result → Shared → Prop} {I S : Addr} {fp wr : List Addr} {n : Nat} {P : Nat → Value → Prop} {St : Nat → Heap → Prop}
end
end PySem
namespace L2
open PySem PySem.W PySem.Calls PyProof.Rows
section
variable {X : Cx} {x : Str} {p pos : Pos} {e : Expr} {es : List Expr} {kws : List Keyword} {ks : List Str} {t tk : TA} {id : String} {r : List V → List V → Hp → VK → Prop}
end
end L2
namespace L2
open PySem PySem.Spec PyProof.Rows
structure CalT (P : Program) (w : World) (K : PySem.W.Frag) (mg : Str → Option Value) (base : Heap) (k : Nat) (m : Str) (C : Addr) (sp : Sp) : Prop where
  ex : ∃ (f : Addr) (fd : FuncData) (ps : List Str), Cls K C ∧ Meth K C m f ∧ FnOk P w K mg base CX0 k f fd ps sp ∧ Binds K fd ps []
section
variable {X : Cx} {k : Nat} {sp : Sp} {C : Addr} {m : Str} {apos pos : Pos} {o e : Expr} {es : List Expr} {ta : TE} {t : TA}
theorem yG {pl : Sem Bool} (c : CalT X.prog X.w X.K X.mg X.base k m C sp) (hr : Room k X.A) (he : PE X o ta)
    (ht : eval (.Call (.Attribute o m apos) [] [] pos) X.env = (do
      let ov ← eval o X.env
      standAt apos.atName
      let (f, first) ← holding [ov] (getMethod ov m pl)
      callWith pos f first (backTo pos (starEach [] X.env)) (backToKw pos (keywordEach [] X.env))) := by rfl) : PE X (.Call (.Attribute o m apos) [] [] pos) (ud C m sp [] E0 ta xA) := by
  obtain ⟨f, fd, ps, c, M, F, hb⟩ := c.ex
  exact Yi (pl := pl) he c M F hr hb .nil qC ht
theorem xl {pl : Sem Bool} (c : CalT X.prog X.w X.K X.mg X.base k m C sp) (hr : Room k X.A) (he : PE X o ta) (ha : PA X (e :: es) t)
    (hst : starEach (e :: es) X.env = (false, eval e X.env) :: starEach es X.env := by rfl) (hpl : (backTo pos (starEach es X.env)).any (·.1) = false := by rfl)
    (ht : eval (.Call (.Attribute o m apos) (e :: es) [] pos) X.env = (do
      let ov ← eval o X.env
      standAt apos.atName
      let (f, first) ← holding [ov] (getMethod ov m pl)
      callWith pos f first (backTo pos (starEach (e :: es) X.env)) (backToKw pos (keywordEach [] X.env))) := by rfl) : PE X (.Call (.Attribute o m apos) (e :: es) [] pos) (ud C m sp [] E0 ta t) := by
  obtain ⟨f, fd, ps, c, M, F, hb⟩ := c.ex
  exact Vm (pl := pl) he c M F hr hb .nil qC ha hst hpl ht
end
end L2
namespace L2
open PySem PySem.Spec PyProof.Rows
structure SV where
  wide : Int
  high : Int
  row : Int
  col : Int
  late : Bool
  ink : Int
  wrap : Bool
  putting : Bool
  home : Bool
  top : Int
  bottom : Int
  left : Int
  right : Int
  last : V
section
variable {p st kp : Addr} {S : SV}
end
section
variable {sl : Addr} {S : SV}
end
section
variable {X : Cx} {o i value : Expr} {td ty tv : TE} {pos pos' : Pos}
theorem PE.cl {e : Expr} {t : TE} (h : PE X e t) : PE X e (fun σ H Q => ∃ Q' : VK, t σ H Q' ∧ ∀ x H1, Q' x H1 → Q x H1) := fun pins s σ H Q I ⟨Q', q, w⟩ =>
  thn (h pins s σ H Q' I q) fun v s1 ⟨x, H1, I1, r1, q1⟩ => ⟨x, H1, I1, r1, w x H1 q1⟩
end
end L2
namespace L2
open PySem PySem.Spec PyProof.Rows
noncomputable def Sh (i : Int) : Prop := -1000000 ≤ i ∧ i ≤ 1000000
theorem qg {K : PySem.W.Frag} {H : Hp} : ∀ ns : List Int, Reps K H (ns.map .int) (ns.map V.int)
  | [] => rfl
  | n :: ns => ⟨_, _, rfl, rfl, qg ns⟩
theorem Sh.log {i : Int} (h : Sh i) : i.natAbs.log2 < 20 := by
  obtain ⟨h1, h2⟩ := h
  by_cases h0 : i.natAbs = 0
  · rw [h0]; decide
  · exact (Nat.log2_lt h0).mpr (by omega)
theorem Sh.w {i : Int} (h : Sh i) : PyData.weight (.int i) ≤ 21 := by
  have := h.log
  simp only [PyData.weight]
  split <;> omega
theorem Sh.short {i : Int} (h : Sh i) : PyData.intsShort 13 (.int i) = true := by
  obtain ⟨h1, h2⟩ := h
  have q : (toString i).length ≤ 7 + 1 := int_text_length_le10 (by decide) (show i.natAbs < 10 ^ 7 by omega)
  have e : (PyData.int i).shown.length = (toString i).length := by
    simp only [PyData.shown]
    exact PySem.ofString_length _
  simp only [PyData.intsShort, decide_eq_true_eq]
  omega
end L2
namespace L2
open PySem PySem.Spec PyProof.Rows
end L2
namespace L2
open PySem PySem.Spec PyProof.Rows
inductive W where
  | d (x : PyData)
  | own (a : Addr)
  | row (a : Addr) (i : Nat)
inductive OO where
  | lst (ws : List W)
  | dK (kvs : List (Key × W))
  | ins (C dx : Addr) (fs : List (Str × W))
  | grid (rows : List (List PyData))
noncomputable abbrev OM := Addr → Option OO
noncomputable def updO (O : OM) (a : Addr) (o : OO) : OM := fun b => if b = a then some o else O b
noncomputable def del (O : OM) (a : Addr) : OM := fun b => if b = a then none else O b
theorem zi {O : OM} {a : Addr} {o : OO} : updO O a o a = some o := by simp [updO]
theorem ze {O : OM} {a b : Addr} {o : OO} (h : b ≠ a) : updO O a o b = O b := by simp [updO, h]
theorem qW {O : OM} {a : Addr} : del O a a = none := by simp [del]
theorem qX {O : OM} {a b : Addr} (h : b ≠ a) : del O a b = O b := by simp [del, h]
theorem Zx {O : OM} {a : Addr} {o u : OO} : updO (updO O a o) a u = updO O a u := by
  funext b; unfold updO; split <;> rfl
structure Gh where
  Z : Hp
  G : Addr → Option (List Addr)
  F : Hp
structure Le (Γ Γ' : Gh) : Prop where
  f : Γ'.F = Γ.F
  z : Same Γ.Z Γ'.Z
  g : ∀ a rs, Γ.G a = some rs → ∃ more, Γ'.G a = some (rs ++ more)
theorem Le.refl (Γ : Gh) : Le Γ Γ := ⟨rfl, Same.refl _, fun _ rs h => ⟨[], by rw [List.append_nil]; exact h⟩⟩
theorem Le.trans {Γ Γ1 Γ2 : Gh} (a : Le Γ Γ1) (b : Le Γ1 Γ2) : Le Γ Γ2 := ⟨b.f.trans a.f, a.z.trans b.z, fun x rs h => by
  obtain ⟨m, h1⟩ := a.g x rs h
  obtain ⟨m2, h2⟩ := b.g x _ h1
  exact ⟨m ++ m2, by rw [← List.append_assoc]; exact h2⟩⟩
theorem Le.zOnly {Γ : Gh} {Z : Hp} (h : Same Γ.Z Z) : Le Γ ⟨Z, Γ.G, Γ.F⟩ := ⟨rfl, h, fun _ rs h => ⟨[], by rw [List.append_nil]; exact h⟩⟩
section
variable (K : PySem.W.Frag)
noncomputable def relW (Γ : Gh) : W → V → Prop
  | .d x, v => Rep K Γ.Z x v
  | .own a, v => v = .ref a
  | .row a i, v => ∃ rs r, Γ.G a = some rs ∧ rs[i]? = some r ∧ v = .ref r
noncomputable abbrev relWs (Γ : Gh) : List W → List V → Prop := Paired (relW K Γ)
noncomputable def vE (Γ : Gh) : Option W → Option V → Prop
  | some w, some v => relW K Γ w v
  | none, _ => True
  | _, _ => False
noncomputable abbrev relR (Γ : Gh) : List (Option W) → St → Prop := Paired (vE K Γ)
noncomputable def yO {κ : Type} (Γ : Gh) : List (κ × W) → List (κ × V) → Prop := Paired fun p q => p.1 = q.1 ∧ relW K Γ p.2 q.2
noncomputable def ObjW (Γ : Gh) (O : OM) (H : Hp) (a : Addr) : OO → Prop
  | .lst ws => ∃ vs, H a = some (.lst vs) ∧ relWs K Γ ws vs
  | .dK kvs => ∃ vs, H a = some (.dK vs) ∧ yO K Γ kvs vs
  | .ins C dx fs => ∃ vs, H a = some (.ins C dx vs) ∧ yO K Γ fs vs
  | .grid rows => ∃ rs, Γ.G a = some rs ∧ H a = some (.lst (rs.map V.ref)) ∧ rs.length = rows.length ∧ rs.Nodup ∧
      ∀ (i : Nat) (r : Addr) (ds : List PyData), rs[i]? = some r → rows[i]? = some ds → Γ.Z r = none ∧ O r = none ∧ ∃ vs, H r = some (.lst vs) ∧ Reps K Γ.Z ds vs
structure Sim (Γ : Gh) (O : OM) (H : Hp) : Prop where
  z : Same Γ.Z H
  o : ∀ a oo, O a = some oo → Γ.Z a = none ∧ ObjW K Γ O H a oo
  gd : ∀ a rs, Γ.G a = some rs → ∃ o, H a = some o
  f : Same Γ.F H
  gn : ∀ a oo, O a = some oo → (∀ rows, oo ≠ .grid rows) → Γ.G a = none
  fg : ∀ a o, Γ.F a = some o → Γ.G a = none
  fd : ∀ a o, Γ.F a = some o → Γ.Z a = none ∧ O a = none ∧ ∀ b rows rs, O b = some (.grid rows) → Γ.G b = some rs → a ∉ rs
  u : ∀ a b ra rb rs ss r, O a = some (.grid ra) → O b = some (.grid rb) → Γ.G a = some rs → Γ.G b = some ss → r ∈ rs → r ∈ ss → a = b
end
section
variable {K : PySem.W.Frag} {Γ Γ' : Gh} {O : OM} {H H' : Hp}
theorem relW.mono (h : Le Γ Γ') : ∀ {w : W} {v : V}, relW K Γ w v → relW K Γ' w v
  | .d x, v, r => Rep.same h.z x v r
  | .own a, v, r => r
  | .row a i, v, ⟨rs, r, e, f, g⟩ => by
    obtain ⟨m, e'⟩ := h.g _ _ e
    have hi : i < rs.length := (List.getElem?_eq_some_iff.mp f).1
    exact ⟨rs ++ m, r, e', by rw [List.getElem?_append_left hi]; exact f, g⟩
theorem relWs.mono (h : Le Γ Γ') {ws : List W} {vs : List V} (r : relWs K Γ ws vs) : relWs K Γ' ws vs := Paired.mapP r fun _ _ z => z.mono h
theorem vE.mono (h : Le Γ Γ') : ∀ {w : Option W} {v : Option V}, vE K Γ w v → vE K Γ' w v
  | some w, some v, r => relW.mono h r
  | none, _, _ => trivial
  | some _, none, r => r.elim
theorem relR.mono (h : Le Γ Γ') {ρ : List (Option W)} {σ : St} (r : relR K Γ ρ σ) : relR K Γ' ρ σ := Paired.mapP r fun _ _ z => z.mono h
theorem yO.mono {κ : Type} (h : Le Γ Γ') {a : List (κ × W)} {b : List (κ × V)} (r : yO K Γ a b) : yO K Γ' a b := Paired.mapP r fun _ _ z => ⟨z.1, z.2.mono h⟩
theorem relR.get {ρ : List (Option W)} {σ : St} : ∀ {i : Nat} {w : W}, relR K Γ ρ σ → ρ[i]? = some (some w) → ∃ v, σ[i]? = some (some v) ∧ relW K Γ w v := by
  intro i w r
  induction r generalizing i with
  | nil => intro e; simp at e
  | cons h t ih =>
    rename_i x y xs ys
    intro e
    cases i with
    | zero =>
      simp at e
      subst e
      cases y with
      | none => exact h.elim
      | some v => exact ⟨v, rfl, h⟩
    | succ i => simpa using ih (i := i) (by simpa using e)
theorem Paired.getP {α β : Type} {F : α → β → Prop} {xs : List α} {ys : List β} (r : Paired F xs ys) : ∀ {i : Nat} {x : α}, xs[i]? = some x → ∃ y, ys[i]? = some y ∧ F x y := by
  induction r with
  | nil => intro i x e; simp at e
  | cons h t ih =>
    intro i x e
    cases i with
    | zero => simp at e; subst e; exact ⟨_, rfl, h⟩
    | succ i => simpa using ih (i := i) (by simpa using e)
theorem Paired.setP {α β : Type} {F : α → β → Prop} {xs : List α} {ys : List β} {x : α} {y : β} (r : Paired F xs ys) (h : F x y) : ∀ {i : Nat}, Paired F (xs.set i x) (ys.set i y) := by
  induction r with
  | nil => intro i; exact .nil
  | cons g t ih =>
    intro i
    cases i with
    | zero => exact .cons h t
    | succ i => exact .cons g ih
theorem Paired.appP {α β : Type} {F : α → β → Prop} {xs xs' : List α} {ys ys' : List β} (r : Paired F xs ys) (s : Paired F xs' ys') : Paired F (xs ++ xs') (ys ++ ys') := by
  induction r with
  | nil => exact s
  | cons h t ih => exact .cons h ih
theorem Paired.takeP {α β : Type} {F : α → β → Prop} {xs : List α} {ys : List β} (r : Paired F xs ys) : ∀ n, Paired F (xs.take n) (ys.take n) := by
  induction r with
  | nil => intro n; simp; exact .nil
  | cons h t ih =>
    intro n
    cases n with
    | zero => exact .nil
    | succ n => exact .cons h (ih n)
theorem Paired.dropP {α β : Type} {F : α → β → Prop} {xs : List α} {ys : List β} (r : Paired F xs ys) : ∀ n, Paired F (xs.drop n) (ys.drop n) := by
  induction r with
  | nil => intro n; simp; exact .nil
  | cons h t ih =>
    intro n
    cases n with
    | zero => exact .cons h t
    | succ n => exact ih n
theorem zF : ∀ {ds : List PyData} {vs : List V}, Reps K Γ.Z ds vs → relWs K Γ (ds.map .d) vs
  | [], _, h => by rw [show _ = [] from h]; exact .nil
  | d :: ds, _, h => by
    obtain ⟨x, r, rfl, h1, h2⟩ := h
    exact .cons h1 (zF h2)
theorem zq : ∀ {ds : List PyData} {vs : List V}, relWs K Γ (ds.map .d) vs → Reps K Γ.Z ds vs
  | [], _, h => by cases h; rfl
  | d :: ds, _, h => by
    cases h with
    | cons a b => exact ⟨_, _, rfl, a, zq b⟩
noncomputable def zr (O : OM) : W → Option (List W)
  | .d (.list ds) => some (ds.map .d)
  | .own a => match O a with
    | some (.lst ws) => some ws
    | some (.grid rows) => some ((List.range rows.length).map (.row a))
    | _ => none
  | .row a i => match O a with
    | some (.grid rows) => (rows[i]?).map (·.map .d)
    | _ => none
  | _ => none
noncomputable def yh : W → Option (List PyData)
  | .d (.tuple ds) => some ds
  | _ => none
theorem yH {w : W} {v : V} {ds : List PyData} (S : Sim K Γ O H) (r : relW K Γ w v) (e : yh w = some ds) : ∃ a vs, v = .ref a ∧ SqT K H a vs ∧ relWs K Γ (ds.map .d) vs := by
  cases w with
  | d x =>
    cases x with
    | tuple es =>
      simp [yh] at e
      subst e
      obtain ⟨a, xs, e1, h1, h2⟩ := r
      exact ⟨a, xs, e1, h1.same S.z, zF h2⟩
    | _ => simp [yh] at e
  | own a => simp [yh] at e
  | row a i => simp [yh] at e
theorem zJ {w : W} {v : V} {ws : List W} (S : Sim K Γ O H) (r : relW K Γ w v) (e : zr O w = some ws) : ∃ a vs, v = .ref a ∧ SqL K H a vs ∧ relWs K Γ ws vs := by
  cases w with
  | d x =>
    cases x with
    | list es =>
      simp [zr] at e
      subst e
      obtain ⟨a, xs, e1, h1, h2⟩ := r
      exact ⟨a, xs, e1, h1.same S.z, zF h2⟩
    | _ => simp [zr] at e
  | own a =>
    cases (show v = .ref a from r)
    simp only [zr] at e
    split at e
    · rename_i us h
      cases e
      obtain ⟨_, vs, h1, h2⟩ := S.o _ _ h
      exact ⟨a, vs, rfl, SqL.of h1, h2⟩
    · rename_i rows h
      cases e
      obtain ⟨_, rs, hg, h1, hl, _, _⟩ := S.o _ _ h
      refine ⟨a, _, rfl, SqL.of h1, ?_⟩
      rw [← hl]
      have key : ∀ (ss : List Addr) (k : Nat), (∀ i, ss[i]? = rs[k + i]?) → relWs K Γ ((List.range' k ss.length).map (W.row a)) (ss.map V.ref) := by
        intro ss
        induction ss with
        | nil => intro k _; exact .nil
        | cons s ss ih =>
          intro k hk
          refine .cons ⟨rs, s, hg, ?_, rfl⟩ (ih (k + 1) fun i => ?_)
          · have := hk 0; simpa using this.symm
          · have := hk (i + 1)
            rw [List.getElem?_cons_succ] at this
            rw [this]
            congr 1
            omega
      have h0 := key rs 0 (fun i => by rw [Nat.zero_add])
      rw [List.range_eq_range']
      exact h0
    · cases e
  | row a i =>
    obtain ⟨rs, r0, hg, hr, rfl⟩ := r
    simp only [zr] at e
    split at e
    · rename_i rows h
      cases hi : rows[i]? with
      | none => rw [hi] at e; cases e
      | some ds =>
        rw [hi] at e
        cases e
        obtain ⟨_, rs', hg', h1, hl, _, hrow⟩ := S.o _ _ h
        rw [hg] at hg'
        cases hg'
        obtain ⟨_, _, vs, h2, h3⟩ := hrow i r0 ds hr hi
        exact ⟨r0, vs, rfl, SqL.of h2, zF h3⟩
    · cases e
noncomputable def zU : List W → Option (List PyData)
  | [] => some []
  | .d x :: ws => (zU ws).map (x :: ·)
  | _ :: _ => none
theorem zM : ∀ ds : List PyData, zU (ds.map .d) = some ds
  | [] => rfl
  | d :: ds => by simp [zU, zM ds]
theorem z9 : ∀ {ws : List W} {ds : List PyData}, zU ws = some ds → ws = ds.map .d
  | [], ds, e => by cases e; rfl
  | .d x :: ws, ds, e => by
    simp [zU] at e
    obtain ⟨es, h1, h2⟩ := e
    subst h2
    rw [z9 h1]
    rfl
  | .own _ :: _, _, e => by simp [zU] at e
  | .row _ _ :: _, _, e => by simp [zU] at e
noncomputable def xm (O : OM) : W → Option PyData
  | .d x => some x
  | .own a => match O a with
    | some (.lst ws) => (zU ws).map .list
    | some (.grid rows) => some (.list (rows.map .list))
    | _ => none
  | .row a i => match O a with
    | some (.grid rows) => (rows[i]?).map .list
    | _ => none
theorem xV {w : W} {v : V} {x : PyData} (S : Sim K Γ O H) (r : relW K Γ w v) (e : xm O w = some x) : Rep K H x v := by
  cases w with
  | d y => cases e; exact Rep.same S.z _ _ r
  | own a =>
    cases (show v = .ref a from r)
    simp only [xm] at e
    split at e
    · rename_i ws h
      cases hd : zU ws with
      | none => rw [hd] at e; cases e
      | some ds =>
        rw [hd] at e
        cases e
        obtain ⟨_, vs, h1, h2⟩ := S.o _ _ h
        rw [z9 hd] at h2
        exact ⟨a, vs, rfl, SqL.of h1, Reps.same S.z _ _ (zq h2)⟩
    · rename_i rows h
      cases e
      obtain ⟨_, rs, hg, h1, hl, _, hrow⟩ := S.o _ _ h
      refine ⟨a, _, rfl, SqL.of h1, ?_⟩
      have key : ∀ (rows : List (List PyData)) (rs : List Addr), rs.length = rows.length → (∀ (i : Nat) (r : Addr) (ds : List PyData), rs[i]? = some r → rows[i]? = some ds → ∃ vs, H r = some (.lst vs) ∧ Reps K Γ.Z ds vs) → Reps K H (rows.map .list) (rs.map V.ref) := by
        intro rows
        induction rows with
        | nil => intro rs hl _; cases rs with | nil => rfl | cons _ _ => simp at hl
        | cons row rows ih =>
          intro rs hl hr
          cases rs with
          | nil => simp at hl
          | cons r rs =>
            obtain ⟨vs, h1, h2⟩ := hr 0 r row rfl rfl
            exact ⟨.ref r, _, rfl, ⟨r, vs, rfl, SqL.of h1, Reps.same S.z _ _ h2⟩, ih rs (by simpa using hl) fun i r ds a b => hr (i + 1) r ds (by simpa using a) (by simpa using b)⟩
      exact key rows rs hl fun i r ds a b => (hrow i r ds a b).2.2
    · cases e
  | row a i =>
    obtain ⟨rs, r0, hg, hr, rfl⟩ := r
    simp only [xm] at e
    split at e
    · rename_i rows h
      cases hi : rows[i]? with
      | none => rw [hi] at e; cases e
      | some ds =>
        rw [hi] at e
        cases e
        obtain ⟨_, rs', hg', h1, hl, _, hrow⟩ := S.o _ _ h
        rw [hg] at hg'
        cases hg'
        obtain ⟨_, _, vs, h2, h3⟩ := hrow i r0 ds hr hi
        exact ⟨r0, vs, rfl, SqL.of h2, Reps.same S.z _ _ h3⟩
    · cases e
theorem Sim.free (S : Sim K Γ O H) {p : Addr} (hp : H p = none) : Γ.Z p = none ∧ O p = none ∧ Γ.G p = none := by
  refine ⟨S.z.free hp, ?_, ?_⟩
  · cases e : O p with
    | none => rfl
    | some oo =>
      obtain ⟨_, h⟩ := S.o _ _ e
      cases oo with
      | lst ws => obtain ⟨vs, h1, _⟩ := h; rw [hp] at h1; cases h1
      | dK ws => obtain ⟨vs, h1, _⟩ := h; rw [hp] at h1; cases h1
      | ins C dx ws => obtain ⟨vs, h1, _⟩ := h; rw [hp] at h1; cases h1
      | grid rows => obtain ⟨rs, _, h1, _⟩ := h; rw [hp] at h1; cases h1
  · cases e : Γ.G p with
    | none => rfl
    | some rs =>
      obtain ⟨o, h⟩ := S.gd _ _ e
      rw [hp] at h
      cases h
theorem ObjW.keep {a : Addr} {oo : OO} (h : ObjW K Γ O H a oo) (hl : Le Γ Γ') {O' : OM} (ha : H' a = H a) (hG : Γ'.G a = Γ.G a) (hr : ∀ rs r, Γ.G a = some rs → (∃ rows, oo = .grid rows) → r ∈ rs → H' r = H r ∧ Γ'.Z r = Γ.Z r ∧ O' r = O r) : ObjW K Γ' O' H' a oo := by
  cases oo with
  | lst ws => obtain ⟨vs, h1, h2⟩ := h; exact ⟨vs, by rw [ha]; exact h1, h2.mono hl⟩
  | dK ws => obtain ⟨vs, h1, h2⟩ := h; exact ⟨vs, by rw [ha]; exact h1, h2.mono hl⟩
  | ins C dx ws => obtain ⟨vs, h1, h2⟩ := h; exact ⟨vs, by rw [ha]; exact h1, h2.mono hl⟩
  | grid rows =>
    obtain ⟨rs, hg, h1, h2, hn, h3⟩ := h
    refine ⟨rs, by rw [hG]; exact hg, by rw [ha]; exact h1, h2, hn, fun i r ds e1 e2 => ?_⟩
    obtain ⟨q1, q2, q3⟩ := hr rs r hg ⟨rows, rfl⟩ (List.mem_of_getElem? e1)
    obtain ⟨z1, z2, vs, z3, z4⟩ := h3 i r ds e1 e2
    exact ⟨by rw [q2]; exact z1, by rw [q3]; exact z2, vs, by rw [q1]; exact z3, Reps.same hl.z _ _ z4⟩
theorem Sim.rowIn (S : Sim K Γ O H) {a : Addr} {rows : List (List PyData)} {rs : List Addr} {r : Addr} (ho : O a = some (.grid rows)) (hg : Γ.G a = some rs) (hr : r ∈ rs) : Γ.Z r = none ∧ O r = none ∧ ∃ vs, H r = some (.lst vs) := by
  obtain ⟨_, rs', hg', h1, hl, _, hrow⟩ := S.o _ _ ho
  rw [hg] at hg'
  cases hg'
  obtain ⟨i, hi, rfl⟩ := List.mem_iff_getElem.mp hr
  obtain ⟨z1, z2, vs, z3, _⟩ := hrow i rs[i] (rows[i]'(by omega)) (List.getElem?_eq_getElem hi) (List.getElem?_eq_getElem (by omega))
  exact ⟨z1, z2, vs, z3⟩
theorem Sim.newD (S : Sim K Γ O H) {p : Addr} (hp : H p = none) (o : HO) : Le Γ ⟨upd Γ.Z p o, Γ.G, Γ.F⟩ ∧ Sim K ⟨upd Γ.Z p o, Γ.G, Γ.F⟩ O (upd H p o) := by
  obtain ⟨hz, hO, hG⟩ := S.free hp
  have le : Le Γ ⟨upd Γ.Z p o, Γ.G, Γ.F⟩ := Le.zOnly (zX hz)
  have hF := S.f.free hp
  refine ⟨le, ⟨fun b u e => ?_, fun a oo e => ?_, fun a rs e => ?_, xi S.f hF, S.gn, S.fg, fun a o' e => ?_, S.u⟩⟩
  · replace e : upd Γ.Z p o b = some u := e
    by_cases hb : b = p
    · subst hb; rw [zh] at e; rw [zh]; exact e
    · rw [za hb] at e; rw [za hb]; exact S.z _ _ e
  · have hap : a ≠ p := fun z => by rw [z, hO] at e; cases e
    obtain ⟨h1, h2⟩ := S.o _ _ e
    refine ⟨by show upd Γ.Z p o a = none; rw [za hap]; exact h1, h2.keep le (za hap) rfl fun rs r hg ⟨rows, hrw⟩ hr => ?_⟩
    subst hrw
    obtain ⟨_, _, vs, q⟩ := S.rowIn e hg hr
    have hrp : r ≠ p := fun z => by rw [z, hp] at q; cases q
    exact ⟨za hrp, za hrp, rfl⟩
  · obtain ⟨o', h⟩ := S.gd _ _ e
    exact ⟨o', by rw [za (zz h hp)]; exact h⟩
  · obtain ⟨q1, q2, q3⟩ := S.fd a o' e
    exact ⟨(za (zz e hF)).trans q1, q2, q3⟩
theorem Sim.newO (S : Sim K Γ O H) {p : Addr} (hp : H p = none) {o : HO} {oo : OO} (hg : ∀ rows, oo ≠ .grid rows) (ho : ObjW K Γ O (upd H p o) p oo) : Sim K Γ (updO O p oo) (upd H p o) := by
  obtain ⟨hz, hO, hG⟩ := S.free hp
  have hF := S.f.free hp
  have k1 : ∀ {x : Addr} {rx : List (List PyData)}, updO O p oo x = some (.grid rx) → O x = some (.grid rx) := fun {x rx} h => by
    by_cases hx : x = p
    · subst hx; rw [zi] at h; cases h; exact absurd rfl (hg rx)
    · rw [ze hx] at h; exact h
  refine ⟨fun b u e => ?_, fun a o' e => ?_, fun a rs e => ?_, xi S.f hF, fun a o' e hn => ?_, S.fg, fun a o' e => ?_, fun a b ra rb rs ss r e1 e2 => S.u a b ra rb rs ss r (k1 e1) (k1 e2)⟩
  · rw [za (fun z => by rw [z, hz] at e; cases e)]; exact S.z _ _ e
  · by_cases hap : a = p
    · subst hap
      rw [zi] at e
      cases e
      refine ⟨hz, ho.keep (Le.refl _) rfl rfl fun rs r h1 ⟨rows, h2⟩ => absurd h2 (hg rows)⟩
    · rw [ze hap] at e
      obtain ⟨h1, h2⟩ := S.o _ _ e
      refine ⟨h1, h2.keep (Le.refl _) (za hap) rfl fun rs r hg' ⟨rows, hrw⟩ hr => ?_⟩
      subst hrw
      obtain ⟨_, q2, vs, q⟩ := S.rowIn e hg' hr
      have hrp : r ≠ p := fun z => by rw [z, hp] at q; cases q
      exact ⟨za hrp, rfl, ze hrp⟩
  · obtain ⟨o', h⟩ := S.gd _ _ e
    exact ⟨o', by rw [za (zz h hp)]; exact h⟩
  · by_cases hap : a = p
    · rw [hap]; exact hG
    · rw [ze hap] at e; exact S.gn a o' e hn
  · obtain ⟨q1, q2, q3⟩ := S.fd a o' e
    exact ⟨q1, by rw [ze (zz e hF)]; exact q2, fun b rows rs e1 => q3 b rows rs (k1 e1)⟩
theorem Sim.put (S : Sim K Γ O H) {a : Addr} {oo o1 : OO} {o : HO} (h0 : O a = some o1) (hn : ∀ rows, o1 ≠ .grid rows) (hg : ∀ rows, oo ≠ .grid rows) (ho : ObjW K Γ O (upd H a o) a oo) : Sim K Γ (updO O a oo) (upd H a o) := by
  obtain ⟨hz, h1⟩ := S.o _ _ h0
  have k1 : ∀ {x : Addr} {rx : List (List PyData)}, updO O a oo x = some (.grid rx) → O x = some (.grid rx) := fun {x rx} h => by
    by_cases hx : x = a
    · subst hx; rw [zi] at h; cases h; exact absurd rfl (hg rx)
    · rw [ze hx] at h; exact h
  have nF : ∀ b o', Γ.F b = some o' → b ≠ a := fun b o' e z => by
    have := (S.fd b o' e).2.1
    rw [z, h0] at this; cases this
  refine ⟨fun b u e => ?_, fun x o' e => ?_, fun x rs e => ?_, fun b u e => ?_, fun x o' e hn' => ?_, S.fg, fun x o' e => ?_, fun x b ra rb rs ss r e1 e2 => S.u x b ra rb rs ss r (k1 e1) (k1 e2)⟩
  · rw [za (fun z => by rw [z, hz] at e; cases e)]; exact S.z _ _ e
  · by_cases hap : x = a
    · subst hap
      rw [zi] at e
      cases e
      exact ⟨hz, ho.keep (Le.refl _) rfl rfl fun rs r h1 ⟨rows, h2⟩ => absurd h2 (hg rows)⟩
    · rw [ze hap] at e
      obtain ⟨h1, h2⟩ := S.o _ _ e
      refine ⟨h1, h2.keep (Le.refl _) (za hap) rfl fun rs r hg' ⟨rows, hrw⟩ hr => ?_⟩
      subst hrw
      obtain ⟨_, q2, vs, q⟩ := S.rowIn e hg' hr
      have hrp : r ≠ a := fun z => by rw [z, h0] at q2; cases q2
      exact ⟨za hrp, rfl, ze hrp⟩
  · obtain ⟨o', h⟩ := S.gd _ _ e
    by_cases hx : x = a
    · exact ⟨o, by rw [hx, zh]⟩
    · exact ⟨o', by rw [za hx]; exact h⟩
  · rw [za (nF _ _ e)]; exact S.f _ _ e
  · by_cases hap : x = a
    · rw [hap]; exact S.gn a o1 h0 hn
    · rw [ze hap] at e; exact S.gn x o' e hn'
  · obtain ⟨q1, q2, q3⟩ := S.fd x o' e
    exact ⟨q1, by rw [ze (nF _ _ e)]; exact q2, fun b rows rs e1 => q3 b rows rs (k1 e1)⟩
theorem Sim.drop (S : Sim K Γ O H) (a : Addr) : Sim K Γ (del O a) H := by
  have k1 : ∀ {x : Addr} {o : OO}, del O a x = some o → x ≠ a ∧ O x = some o := fun {x o} h => by
    by_cases hx : x = a
    · subst hx; rw [qW] at h; cases h
    · rw [qX hx] at h; exact ⟨hx, h⟩
  refine ⟨S.z, fun x o e => ?_, S.gd, S.f, fun x o e hn => S.gn x o (k1 e).2 hn, S.fg, fun x o e => ⟨(S.fd x o e).1, by unfold del; split; rfl; exact (S.fd x o e).2.1, fun b rows rs e1 => (S.fd x o e).2.2 b rows rs (k1 e1).2⟩, fun x b ra rb rs ss r e1 e2 => S.u x b ra rb rs ss r (k1 e1).2 (k1 e2).2⟩
  obtain ⟨hx, e⟩ := k1 e
  obtain ⟨h1, h2⟩ := S.o _ _ e
  refine ⟨h1, h2.keep (Le.refl _) rfl rfl fun rs r hg ⟨rows, hrw⟩ hr => ?_⟩
  subst hrw
  obtain ⟨_, q2, _⟩ := S.rowIn e hg hr
  refine ⟨rfl, rfl, ?_⟩
  rw [q2]
  unfold del
  split
  · rfl
  · exact q2
theorem Sim.freeze (S : Sim K Γ O H) {a : Addr} {ds : List PyData} (h : O a = some (.lst (ds.map .d))) : ∃ Γ', Le Γ Γ' ∧ Sim K Γ' (del O a) H ∧ relW K Γ' (.d (.list ds)) (.ref a) := by
  obtain ⟨hz, vs, h1, h2⟩ := S.o _ _ h
  have le : Le Γ ⟨upd Γ.Z a (.lst vs), Γ.G, Γ.F⟩ := Le.zOnly (zX hz)
  have S1 := S.drop a
  have nF : ∀ b o', Γ.F b = some o' → b ≠ a := fun b o' e z => by
    have := (S.fd b o' e).2.1
    rw [z, h] at this; cases this
  refine ⟨⟨upd Γ.Z a (.lst vs), Γ.G, Γ.F⟩, le, ⟨fun b u e => ?_, fun x o e => ?_, S.gd, S.f, S1.gn, S.fg, fun x o e => ⟨(za (nF x o e)).trans (S1.fd x o e).1, (S1.fd x o e).2⟩, S1.u⟩, ⟨a, vs, rfl, SqL.of zh, Reps.same le.z _ _ (zq h2)⟩⟩
  · replace e : upd Γ.Z a (.lst vs) b = some u := e
    by_cases hb : b = a
    · subst hb; rw [zh] at e; cases e; exact h1
    · rw [za hb] at e; exact S.z _ _ e
  · have hx : x ≠ a := fun z => by rw [z, qW] at e; cases e
    obtain ⟨q1, q2⟩ := S1.o _ _ e
    refine ⟨by show upd Γ.Z a _ x = none; rw [za hx]; exact q1, q2.keep le rfl rfl fun rs r hg ⟨rows, hrw⟩ hr => ⟨rfl, ?_, rfl⟩⟩
    subst hrw
    rw [qX hx] at e
    obtain ⟨_, q2, _⟩ := S.rowIn e hg hr
    exact za (fun z => by rw [z, h] at q2; cases q2)
theorem Sim.cell (S : Sim K Γ O H) {a r : Addr} {rows : List (List PyData)} {rs : List Addr} {i j : Nat} {ds : List PyData} {vs : List V} {x : PyData} {v : V} (h0 : O a = some (.grid rows)) (hg : Γ.G a = some rs) (hr : rs[i]? = some r) (hd : rows[i]? = some ds)
    (hv : H r = some (.lst vs)) (rx : Rep K Γ.Z x v) : Sim K Γ (updO O a (.grid (rows.set i (ds.set j x)))) (upd H r (.lst (vs.set j v))) := by
  obtain ⟨hz, rs', hg', h1, hl, hn, hrow⟩ := S.o _ _ h0
  rw [hg] at hg'
  cases hg'
  obtain ⟨z1, z2, vs', z3, z4⟩ := hrow i r ds hr hd
  rw [hv] at z3
  cases z3
  have har : a ≠ r := fun e => by rw [← e, h0] at z2; cases z2
  have nF : ∀ b o', Γ.F b = some o' → b ≠ r := fun b o' e z => (S.fd b o' e).2.2 a rows rs h0 hg (by rw [z]; exact List.mem_of_getElem? hr)
  have nFa : ∀ b o', Γ.F b = some o' → b ≠ a := fun b o' e z => by
    have := (S.fd b o' e).2.1
    rw [z, h0] at this; cases this
  have kg : ∀ {b : Addr} {rb : List (List PyData)}, updO O a (.grid (rows.set i (ds.set j x))) b = some (.grid rb) → ∃ ry, O b = some (.grid ry) := fun {b rb} e1 => by
    by_cases hx : b = a
    · exact ⟨rows, by rw [hx]; exact h0⟩
    · rw [ze hx] at e1; exact ⟨rb, e1⟩
  refine ⟨fun b u e => ?_, fun b oo e => ?_, fun b ss e => ?_, fun b u e => by rw [za (nF _ _ e)]; exact S.f _ _ e, fun b o' e hn' => ?_, S.fg, fun b o' e => ⟨(S.fd b o' e).1, by rw [ze (nFa _ _ e)]; exact (S.fd b o' e).2.1, fun c rc ss e1 g1 => by obtain ⟨ry, e2⟩ := kg e1; exact (S.fd b o' e).2.2 c ry ss e2 g1⟩, fun b c rb rc ss tt q e1 e2 h3 h4 h5 h6 => ?_⟩
  · rw [za (fun z => by rw [z, z1] at e; cases e)]; exact S.z _ _ e
  · by_cases hb : b = a
    · subst hb
      rw [zi] at e
      cases e
      refine ⟨hz, rs, hg, by rw [za har]; exact h1, by rw [List.length_set]; exact hl, hn, fun k q es e1 e2 => ?_⟩
      have hq : O q = none := (S.rowIn h0 hg (List.mem_of_getElem? e1)).2.1
      have hqb : q ≠ b := fun e => by rw [e, h0] at hq; cases hq
      by_cases hk : k = i
      · subst hk
        rw [hr] at e1
        cases e1
        rw [List.getElem?_set_self (List.getElem?_eq_some_iff.mp hd).1] at e2
        cases e2
        refine ⟨z1, by rw [ze hqb]; exact z2, _, zh, ?_⟩
        have hw := zF (Γ := Γ) z4
        have hw2 := Paired.setP hw (show relW K Γ (.d x) v from rx) (i := j)
        rw [← List.map_set] at hw2
        exact zq hw2
      · have hne : q ≠ r := fun e => by
          rw [e] at e1
          obtain ⟨l1, g1⟩ := List.getElem?_eq_some_iff.mp e1
          obtain ⟨l2, g2⟩ := List.getElem?_eq_some_iff.mp hr
          exact hk ((List.getElem_inj hn).mp (g1.trans g2.symm))
        rw [List.getElem?_set_ne (Ne.symm hk)] at e2
        obtain ⟨y1, y2, ws, y3, y4⟩ := hrow k q es e1 e2
        exact ⟨y1, by rw [ze hqb]; exact y2, ws, by rw [za hne]; exact y3, y4⟩
    · rw [ze hb] at e
      obtain ⟨q1, q2⟩ := S.o _ _ e
      have hbr : b ≠ r := fun z => by rw [z, z2] at e; cases e
      refine ⟨q1, q2.keep (Le.refl _) (za hbr) rfl fun ss q hgs ⟨rows', hrw⟩ hq => ?_⟩
      subst hrw
      obtain ⟨w1, w2, ws, w3⟩ := S.rowIn e hgs hq
      have hqr : q ≠ r := fun z => hb (S.u b a rows' rows ss rs q e h0 hgs hg hq (by rw [z]; exact List.mem_of_getElem? hr))
      exact ⟨za hqr, rfl, ze (fun z => by rw [z, h0] at w2; cases w2)⟩
  · obtain ⟨o, h⟩ := S.gd _ _ e
    by_cases hb : b = r
    · exact ⟨_, by rw [hb, zh]⟩
    · exact ⟨o, by rw [za hb]; exact h⟩
  · by_cases hb : b = a
    · subst hb; rw [zi] at e; cases e; exact absurd rfl (hn' _)
    · rw [ze hb] at e; exact S.gn b o' e hn'
  · obtain ⟨r1, f1⟩ := kg e1
    obtain ⟨r2, f2⟩ := kg e2
    exact S.u b c r1 r2 ss tt q f1 f2 h3 h4 h5 h6
theorem relW.setF {F : Hp} : ∀ {w : W} {v : V}, relW K Γ w v → relW K ⟨Γ.Z, Γ.G, F⟩ w v
  | .d _, _, h => h
  | .own _, _, h => h
  | .row _ _, _, h => h
theorem relR.setF {F : Hp} {ρ : List (Option W)} {σ : St} (r : relR K Γ ρ σ) : relR K ⟨Γ.Z, Γ.G, F⟩ ρ σ := Paired.mapP r fun a b h => by
  cases a with
  | none => trivial
  | some w => cases b with
    | none => exact h
    | some v => exact relW.setF h
theorem ObjW.setF {F : Hp} {a : Addr} {oo : OO} (h : ObjW K Γ O H a oo) : ObjW K ⟨Γ.Z, Γ.G, F⟩ O H a oo := by
  cases oo with
  | lst ws => obtain ⟨vs, h1, h2⟩ := h; exact ⟨vs, h1, Paired.mapP h2 fun _ _ z => z.setF⟩
  | dK ws => obtain ⟨vs, h1, h2⟩ := h; exact ⟨vs, h1, Paired.mapP h2 fun _ _ z => ⟨z.1, z.2.setF⟩⟩
  | ins C dx ws => obtain ⟨vs, h1, h2⟩ := h; exact ⟨vs, h1, Paired.mapP h2 fun _ _ z => ⟨z.1, z.2.setF⟩⟩
  | grid rows => exact h
theorem Sim.frameNew (S : Sim K Γ O H) {p : Addr} (hp : H p = none) (o : HO) : Sim K ⟨Γ.Z, Γ.G, upd Γ.F p o⟩ O (upd H p o) := by
  obtain ⟨hz, hO, hG⟩ := S.free hp
  have key : ∀ a o', upd Γ.F p o a = some o' → a = p ∨ (a ≠ p ∧ Γ.F a = some o') := fun a o' e => by
    by_cases ha : a = p
    · exact .inl ha
    · rw [za ha] at e; exact .inr ⟨ha, e⟩
  refine ⟨fun b u e => ?_, fun a oo e => ?_, fun a rs e => ?_, fun b u e => ?_, S.gn, fun a o' e => ?_, fun a o' e => ?_, S.u⟩
  · rw [za (fun z => by rw [z, show ({ Z := Γ.Z, G := Γ.G, F := upd Γ.F p o } : Gh).Z p = none from hz] at e; cases e)]; exact S.z _ _ e
  · have hap : a ≠ p := fun z => by rw [z, hO] at e; cases e
    obtain ⟨h1, h2⟩ := S.o _ _ e
    refine ⟨h1, (h2.keep (Le.refl _) (za hap) rfl fun rs r hg ⟨rows, hrw⟩ hr => ?_).setF⟩
    subst hrw
    obtain ⟨_, _, vs, q⟩ := S.rowIn e hg hr
    exact ⟨za (fun z => by rw [z, hp] at q; cases q), rfl, rfl⟩
  · obtain ⟨o', h⟩ := S.gd _ _ e
    exact ⟨o', by rw [za (zz h hp)]; exact h⟩
  · replace e : upd Γ.F p o b = some u := e
    rcases key b u e with rfl | ⟨hb, e'⟩
    · rw [zh] at e ⊢; exact e
    · rw [za hb]; exact S.f _ _ e'
  · rcases key a o' e with rfl | ⟨hb, e'⟩
    · exact hG
    · exact S.fg _ _ e'
  · rcases key a o' e with rfl | ⟨hb, e'⟩
    · refine ⟨hz, hO, fun b rows rs e1 g1 m => ?_⟩
      obtain ⟨_, _, vs, q⟩ := S.rowIn e1 g1 m
      rw [hp] at q; cases q
    · exact S.fd _ _ e'
theorem Sim.framePut (S : Sim K Γ O H) {a : Addr} {o1 : HO} (h : Γ.F a = some o1) (o : HO) : Sim K ⟨Γ.Z, Γ.G, upd Γ.F a o⟩ O (upd H a o) := by
  obtain ⟨hz, hO, hr⟩ := S.fd _ _ h
  have hG := S.fg _ _ h
  have key : ∀ b o', upd Γ.F a o b = some o' → b = a ∨ (b ≠ a ∧ Γ.F b = some o') := fun b o' e => by
    by_cases ha : b = a
    · exact .inl ha
    · rw [za ha] at e; exact .inr ⟨ha, e⟩
  refine ⟨fun b u e => ?_, fun b oo e => ?_, fun b rs e => ?_, fun b u e => ?_, S.gn, fun b o' e => ?_, fun b o' e => ?_, S.u⟩
  · rw [za (fun z => by rw [z, show ({ Z := Γ.Z, G := Γ.G, F := upd Γ.F a o } : Gh).Z a = none from hz] at e; cases e)]; exact S.z _ _ e
  · have hap : b ≠ a := fun z => by rw [z, hO] at e; cases e
    obtain ⟨h1, h2⟩ := S.o _ _ e
    refine ⟨h1, (h2.keep (Le.refl _) (za hap) rfl fun rs r hg ⟨rows, hrw⟩ hm => ?_).setF⟩
    subst hrw
    exact ⟨za (fun z => hr b rows rs e hg (by rw [← z]; exact hm)), rfl, rfl⟩
  · obtain ⟨o', h⟩ := S.gd _ _ e
    by_cases hb : b = a
    · exact ⟨o, by rw [hb, zh]⟩
    · exact ⟨o', by rw [za hb]; exact h⟩
  · replace e : upd Γ.F a o b = some u := e
    rcases key b u e with rfl | ⟨hb, e'⟩
    · rw [zh] at e ⊢; exact e
    · rw [za hb]; exact S.f _ _ e'
  · rcases key b o' e with rfl | ⟨hb, e'⟩
    · exact hG
    · exact S.fg _ _ e'
  · rcases key b o' e with rfl | ⟨hb, e'⟩
    · exact ⟨hz, hO, hr⟩
    · exact S.fd _ _ e'
theorem Sim.unframe (S : Sim K Γ O H) {a : Addr} {ds : List PyData} {vs : List V} {F : Hp} (hF : Γ.F = upd F a (.lst vs)) (h0 : F a = none) (hr : Reps K Γ.Z ds vs) :
    Same Γ.Z (upd Γ.Z a (.lst vs)) ∧ Sim K ⟨upd Γ.Z a (.lst vs), Γ.G, F⟩ O H ∧ relW K ⟨upd Γ.Z a (.lst vs), Γ.G, F⟩ (.d (.list ds)) (.ref a) := by
  have hFa : Γ.F a = some (.lst vs) := by rw [hF, zh]
  obtain ⟨hz, hO, hrow⟩ := S.fd _ _ hFa
  have le : Le Γ ⟨upd Γ.Z a (.lst vs), Γ.G, Γ.F⟩ := Le.zOnly (zX hz)
  have kF : ∀ b o, F b = some o → b ≠ a ∧ Γ.F b = some o := fun b o e => by
    have hb : b ≠ a := fun z => by rw [z, h0] at e; cases e
    exact ⟨hb, by rw [hF, za hb]; exact e⟩
  refine ⟨zX hz, ⟨fun b u e => ?_, fun b oo e => ?_, S.gd, fun b u e => S.f _ _ (kF b u e).2, S.gn, fun b o e => S.fg b o (kF b o e).2, fun b o e => ⟨(za (kF b o e).1).trans (S.fd b o (kF b o e).2).1, (S.fd b o (kF b o e).2).2⟩, S.u⟩, ⟨a, vs, rfl, SqL.of zh, Reps.same (zX hz) _ _ hr⟩⟩
  · replace e : upd Γ.Z a (.lst vs) b = some u := e
    by_cases hb : b = a
    · subst hb; rw [zh] at e; cases e; exact S.f _ _ hFa
    · rw [za hb] at e; exact S.z _ _ e
  · obtain ⟨q1, q2⟩ := S.o _ _ e
    have hb : b ≠ a := fun z => by rw [z, hO] at e; cases e
    refine ⟨(za hb).trans q1, (q2.keep le rfl rfl fun rs r hg ⟨rows, hrw⟩ hm => ⟨rfl, ?_, rfl⟩).setF⟩
    subst hrw
    exact za (fun z => hrow b rows rs e hg (by rw [← z]; exact hm))
end
end L2
namespace L2
open PySem PySem.Spec PyProof.Rows
noncomputable abbrev WS := List (Option W)
noncomputable abbrev WK := W → OM → Prop
noncomputable abbrev TEW := WS → OM → WK → Prop
noncomputable abbrev TTW := WS → OM → (Bool → OM → Prop) → Prop
noncomputable abbrev TAW := WS → OM → (List W → OM → Prop) → Prop
structure EndsW where
  nx : WS → OM → Prop
  rt : WK
  bk : WS → OM → Prop := fun _ _ => False
  ct : WS → OM → Prop := fun _ _ => False
noncomputable abbrev TSW := EndsW → WS → OM → Prop
noncomputable abbrev TGW := W → WS → OM → (WS → OM → Prop) → Prop
noncomputable abbrev TGsW := List PyData → WS → OM → (WS → OM → Prop) → Prop
noncomputable abbrev R2W := W → W → OM → WK → Prop
section
variable (K : PySem.W.Frag)
noncomputable def zj (t : TE) (T : TEW) : Prop := ∀ Γ O H ρ σ, Sim K Γ O H → relR K Γ ρ σ → ∀ (Q : VK) (R : WK), T ρ O R → (∀ Γ' O' H' w v, Le Γ Γ' → Sim K Γ' O' H' → relW K Γ' w v → R w O' → Q v H') → t σ H Q
noncomputable def yi (t : TT) (T : TTW) : Prop := ∀ Γ O H ρ σ, Sim K Γ O H → relR K Γ ρ σ → ∀ (Q : Bool → Hp → Prop) (R : Bool → OM → Prop), T ρ O R → (∀ Γ' O' H' b, Le Γ Γ' → Sim K Γ' O' H' → R b O' → Q b H') → t σ H Q
noncomputable def yp (t : TA) (T : TAW) : Prop := ∀ Γ O H ρ σ, Sim K Γ O H → relR K Γ ρ σ → ∀ (Q : List V → Hp → Prop) (R : List W → OM → Prop), T ρ O R → (∀ Γ' O' H' ws vs, Le Γ Γ' → Sim K Γ' O' H' → relWs K Γ' ws vs → R ws O' → Q vs H') → t σ H Q
structure EndsR (Γ : Gh) (D : Ends) (DW : EndsW) : Prop where
  nx : ∀ Γ' O' H' ρ' σ', Le Γ Γ' → Sim K Γ' O' H' → relR K Γ' ρ' σ' → DW.nx ρ' O' → D.nx σ' H'
  rt : ∀ Γ' O' H' w v, Le Γ Γ' → Sim K Γ' O' H' → relW K Γ' w v → DW.rt w O' → D.rt v H'
  bk : ∀ Γ' O' H' ρ' σ', Le Γ Γ' → Sim K Γ' O' H' → relR K Γ' ρ' σ' → DW.bk ρ' O' → D.bk σ' H'
  ct : ∀ Γ' O' H' ρ' σ', Le Γ Γ' → Sim K Γ' O' H' → relR K Γ' ρ' σ' → DW.ct ρ' O' → D.ct σ' H'
noncomputable def RefS (t : TS) (T : TSW) : Prop := ∀ Γ O H ρ σ D DW, Sim K Γ O H → relR K Γ ρ σ → T DW ρ O → EndsR K Γ D DW → t D σ H
noncomputable def RefG (t : TG) (T : TGW) : Prop := ∀ Γ O H ρ σ w v, Sim K Γ O H → relR K Γ ρ σ → relW K Γ w v → ∀ (Q : St → Hp → Prop) (R : WS → OM → Prop), T w ρ O R → (∀ Γ' O' H' ρ' σ', Le Γ Γ' → Sim K Γ' O' H' → relR K Γ' ρ' σ' → R ρ' O' → Q σ' H') → t v σ H Q
noncomputable def RefGs (t : TGs) (T : TGsW) : Prop := ∀ Γ O H ρ σ ds vs, Sim K Γ O H → relR K Γ ρ σ → Reps K Γ.Z ds vs → ∀ (Q : St → Hp → Prop) (R : WS → OM → Prop), T ds ρ O R → (∀ Γ' O' H' ρ' σ', Le Γ Γ' → Sim K Γ' O' H' → relR K Γ' ρ' σ' → R ρ' O' → Q σ' H') → t vs σ H Q
noncomputable def RefR (r : R2) (rw : R2W) : Prop := ∀ Γ O H x y v u, Sim K Γ O H → relW K Γ x v → relW K Γ y u → ∀ (Q : VK) (R : WK), rw x y O R → (∀ Γ' O' H' w v, Le Γ Γ' → Sim K Γ' O' H' → relW K Γ' w v → R w O' → Q v H') → r v u H Q
noncomputable def RefC (r : List V → Hp → VK → Prop) (rw : List W → OM → WK → Prop) : Prop := ∀ Γ O H xs vs, Sim K Γ O H → relWs K Γ xs vs → ∀ (Q : VK) (R : WK), rw xs O R → (∀ Γ' O' H' w v, Le Γ Γ' → Sim K Γ' O' H' → relW K Γ' w v → R w O' → Q v H') → r vs H Q
noncomputable def RefM (ty : String) (r : V → List V → Hp → VK → Prop) (rw : W → List W → OM → WK → Prop) : Prop := ∀ Γ O H x v xs vs, Sim K Γ O H → relW K Γ x v → relWs K Γ xs vs → ∀ (Q : VK) (R : WK), rw x xs O R → (∀ Γ' O' H' w v, Le Γ Γ' → Sim K Γ' O' H' → relW K Γ' w v → R w O' → Q v H') → r v vs H Q
end
section
variable {K : PySem.W.Frag}
theorem EndsR.mono {Γ Γ' : Gh} {D : Ends} {DW : EndsW} (h : EndsR K Γ D DW) (l : Le Γ Γ') : EndsR K Γ' D DW :=
  ⟨fun _ _ _ _ _ l2 => h.nx _ _ _ _ _ (l.trans l2), fun _ _ _ _ _ l2 => h.rt _ _ _ _ _ (l.trans l2), fun _ _ _ _ _ l2 => h.bk _ _ _ _ _ (l.trans l2), fun _ _ _ _ _ l2 => h.ct _ _ _ _ _ (l.trans l2)⟩
noncomputable def ofV : V → W
  | .int i => .d (.int i)
  | .bl b => .d (.bool b)
  | .str x => .d (.str x)
  | _ => .d .none
noncomputable def scV : V → Bool
  | .int _ => true
  | .bl _ => true
  | .str _ => true
  | .non => true
  | _ => false
theorem uL {Γ : Gh} {v : V} (h : scV v = true) : relW K Γ (ofV v) v := by
  cases v <;> first | rfl | simp [scV] at h
noncomputable def vOf : PyData → V
  | .int i => .int i
  | .bool b => .bl b
  | .str x => .str x
  | .none => .non
  | _ => .ty ""
noncomputable def scD : PyData → Bool
  | .int _ => true
  | .bool _ => true
  | .str _ => true
  | .none => true
  | _ => false
theorem uh {Z : Hp} {x : PyData} {v : V} (h : Rep K Z x v) (s : scD x = true) : v = vOf x := by
  cases x <;> first | exact h | simp [scD] at s
theorem ya {Γ : Gh} {b : Bool} : relW K Γ (.d (.bool b)) (.bl b) := rfl
theorem y9 {Γ : Gh} {b : Str} : relW K Γ (.d (.str b)) (.str b) := rfl
theorem xa {Γ : Gh} {b : Int} : relW K Γ (.d (.int b)) (.int b) := rfl
theorem xL {Γ : Gh} {a : Addr} : relW K Γ (.own a) (.ref a) := rfl
theorem Q3 {Γ : Gh} {x : PyData} {v : V} (h : Rep K Γ.Z x v) : relW K Γ (.d x) v := h
theorem vF {Γ : Gh} : relW K Γ (.d .none) .non := rfl
noncomputable def Jx (i : Nat) : TEW := fun ρ O R => ∃ w, ρ[i]? = some (some w) ∧ R w O
noncomputable def wC (x : PyData) : TEW := fun _ O R => R (.d x) O
theorem Vz {i : Nat} : zj K (kd i) (Jx i) := by
  rintro Γ O H ρ σ S r Q R ⟨w, e, h⟩ k
  obtain ⟨v, e', hv⟩ := r.get e
  exact ⟨v, e', k _ _ _ _ _ (Le.refl _) S hv h⟩
theorem qE {v : V} {x : PyData} (h : vOf x = v := by rfl) (hs : scD x = true := by rfl) : zj K (tC v) (wC x) := by
  rintro Γ O H ρ σ S r Q R hR k
  subst h
  refine k _ _ _ _ _ (Le.refl _) S ?_ hR
  cases x <;> first | rfl | simp [scD] at hs
theorem VA {i : Int} : zj K (tC (.int i)) (wC (.int i)) := qE
theorem VB {i : Str} : zj K (tC (.str i)) (wC (.str i)) := qE
theorem UV {i : Bool} : zj K (tC (.bl i)) (wC (.bool i)) := qE
theorem VC : zj K (tC .non) (wC .none) := qE
noncomputable def wOp (r : R2W) (Ta Tb : TEW) : TEW := fun ρ O R => Ta ρ O fun x O1 => Tb ρ O1 fun y O2 => r x y O2 R
theorem UW {r : R2} {rw : R2W} {ta tb : TE} {Ta Tb : TEW} (hr : RefR K r rw) (ha : zj K ta Ta) (hb : zj K tb Tb) : zj K (tOp r ta tb) (wOp rw Ta Tb) := by
  intro Γ O H ρ σ S r0 Q R h k
  refine ha Γ O H ρ σ S r0 _ _ h fun Γ1 O1 H1 x v l1 S1 rx h1 => ?_
  refine hb Γ1 O1 H1 ρ σ S1 (r0.mono l1) _ _ h1 fun Γ2 O2 H2 y u l2 S2 ry h2 => ?_
  exact hr Γ2 O2 H2 x y v u S2 (rx.mono l2) ry _ _ h2 fun Γ3 O3 H3 w z l3 S3 rz h3 => k Γ3 O3 H3 w z ((l1.trans l2).trans l3) S3 rz h3
noncomputable def wUn (r : W → OM → WK → Prop) (Ta : TEW) : TEW := fun ρ O R => Ta ρ O fun x O1 => r x O1 R
noncomputable def wI0 (g : Int → Int → V) : R2W := fun x y O R => ∃ i j, x = .d (.int i) ∧ y = .d (.int j) ∧ R (ofV (g i j)) O
noncomputable def wI (C : Int → Int → Prop) (g : Int → Int → V) : R2W := fun x y O R => ∃ i j, x = .d (.int i) ∧ y = .d (.int j) ∧ C i j ∧ R (ofV (g i j)) O
theorem Jy {g : Int → Int → V} (hg : ∀ i j, scV (g i j) = true := by intro _ _; rfl) : RefR K (rI0 g) (wI0 g) := by
  rintro Γ O H x y v u S rx ry Q R ⟨i, j, rfl, rfl, h⟩ k
  exact ⟨i, j, rx, ry, k _ _ _ _ _ (Le.refl _) S (uL (hg i j)) h⟩
theorem r_I {C : Int → Int → Prop} {g : Int → Int → V} (hg : ∀ i j, scV (g i j) = true := by intro _ _; rfl) : RefR K (rI C g) (wI C g) := by
  rintro Γ O H x y v u S rx ry Q R ⟨i, j, rfl, rfl, c, h⟩ k
  exact ⟨i, j, rx, ry, c, k _ _ _ _ _ (Le.refl _) S (uL (hg i j)) h⟩
noncomputable def wEq : R2W := fun x y O R => ∃ a b, x = .d a ∧ y = .d b ∧ scD a = true ∧ scD b = true ∧ vT (vOf a) (vOf b) = true ∧ R (.d (.bool (decide (vOf a = vOf b)))) O
noncomputable def wNe : R2W := fun x y O R => ∃ a b, x = .d a ∧ y = .d b ∧ scD a = true ∧ scD b = true ∧ vT (vOf a) (vOf b) = true ∧ R (.d (.bool (!decide (vOf a = vOf b)))) O
theorem Jz : RefR K rEq wEq := by
  rintro Γ O H x y v u S rx ry Q R ⟨a, b, rfl, rfl, sa, sb, sc, h⟩ k
  rw [uh rx sa, uh ry sb]
  exact ⟨sc, k _ _ _ _ _ (Le.refl _) S ya h⟩
theorem JA : RefR K rNe wNe := by
  rintro Γ O H x y v u S rx ry Q R ⟨a, b, rfl, rfl, sa, sb, sc, h⟩ k
  rw [uh rx sa, uh ry sb]
  exact ⟨sc, k _ _ _ _ _ (Le.refl _) S ya h⟩
noncomputable def UX : R2W := fun x y O R => ∃ a b, xm O x = some a ∧ xm O y = some b ∧ SeqAt.shaped a = true ∧ SeqAt.shaped b = true ∧ R (.d (.bool (PyData.eqv a b))) O
noncomputable def UY : R2W := fun x y O R => ∃ a b, xm O x = some a ∧ xm O y = some b ∧ SeqAt.shaped a = true ∧ SeqAt.shaped b = true ∧ R (.d (.bool (!PyData.eqv a b))) O
theorem Q4 : RefR K (Yr K) UX := by
  rintro Γ O H x y v u S rx ry Q R ⟨a, b, e1, e2, s1, s2, h⟩ k
  exact ⟨a, b, xV S rx e1, xV S ry e2, s1, s2, k _ _ _ _ _ (Le.refl _) S ya h⟩
theorem Q5 : RefR K (Ys K) UY := by
  rintro Γ O H x y v u S rx ry Q R ⟨a, b, e1, e2, s1, s2, h⟩ k
  exact ⟨a, b, xV S rx e1, xV S ry e2, s1, s2, k _ _ _ _ _ (Le.refl _) S ya h⟩
noncomputable def vG : W → Bool
  | .d .none => true
  | _ => false
theorem qY {Γ : Gh} {w : W} {v : V} (r : relW K Γ w v) : decide (v = .non) = vG w := by
  cases w with
  | d x =>
    cases x with
    | none => rw [show v = .non from r]; rfl
    | list ds => obtain ⟨a, _, rfl, _⟩ := r; rfl
    | tuple ds => obtain ⟨a, _, rfl, _⟩ := r; rfl
    | dict _ => exact r.elim
    | int i => rw [show v = .int i from r]; rfl
    | bool i => rw [show v = .bl i from r]; rfl
    | str i => rw [show v = .str i from r]; rfl
  | own a => rw [show v = .ref a from r]; rfl
  | row a i => obtain ⟨rs, r0, _, _, rfl⟩ := r; rfl
noncomputable def JB : R2W := fun x y O R => y = .d .none ∧ R (.d (.bool (vG x))) O
noncomputable def Q6 : R2W := fun x y O R => y = .d .none ∧ R (.d (.bool (!vG x))) O
theorem Q7 : RefR K (fun x y H Q => y = .non ∧ Q (.bl (decide (x = .non))) H) JB := by
  rintro Γ O H x y v u S rx ry Q R ⟨rfl, h⟩ k
  refine ⟨ry, k _ _ _ _ _ (Le.refl _) S ?_ h⟩
  rw [qY rx]; rfl
theorem UZ : RefR K (fun x y H Q => y = .non ∧ Q (.bl (!decide (x = .non))) H) Q6 := by
  rintro Γ O H x y v u S rx ry Q R ⟨rfl, h⟩ k
  refine ⟨ry, k _ _ _ _ _ (Le.refl _) S ?_ h⟩
  rw [qY rx]; rfl
noncomputable def JC (b : Bool) : W → Bool
  | .d (.bool c) => decide (c = b)
  | _ => false
noncomputable def JD : R2W := fun x y O R => ∃ ws i w, y = .d (.int i) ∧ zr O x = some ws ∧ atI ws i = some w ∧ R w O
noncomputable def U0 : R2W := fun x y O R => ∃ ds i e, y = .d (.int i) ∧ yh x = some ds ∧ atI ds i = some e ∧ R (.d e) O
noncomputable def U1 : R2W := fun x y O R => ∃ z i c, x = .d (.str z) ∧ y = .d (.int i) ∧ z.length ≤ sizeLine ∧ atI z.cps.toList i = some c ∧ R (.d (.str ⟨#[c]⟩)) O
theorem uk {α β : Type} {F : α → β → Prop} {xs : List α} {ys : List β} {i : Int} {x : α} (r : Paired F xs ys) (e : atI xs i = some x) : ∃ y, atI ys i = some y ∧ F x y := by
  unfold atI at e ⊢
  rw [← Paired.length r]
  cases h : ixN xs.length i with
  | none => rw [h] at e; cases e
  | some j =>
    rw [h] at e
    exact Paired.getP r e
theorem Q8 : RefR K (ku K) JD := by
  rintro Γ O H x y v u S rx ry Q R ⟨ws, i, w, rfl, e, h1, h⟩ k
  obtain ⟨a, vs, rfl, q1, q2⟩ := zJ S rx e
  obtain ⟨z, h2, h3⟩ := uk q2 h1
  exact ⟨a, vs, i, z, rfl, ry, q1, h2, k _ _ _ _ _ (Le.refl _) S h3 h⟩
theorem Q9 : RefR K (Yl K) U0 := by
  rintro Γ O H x y v u S rx ry Q R ⟨ds, i, w, rfl, e, h1, h⟩ k
  obtain ⟨a, vs, rfl, q1, q2⟩ := yH S rx e
  have h1' : atI (ds.map W.d) i = some (.d w) := by
    unfold atI at h1 ⊢
    rw [List.length_map]
    cases hj : ixN ds.length i with
    | none => rw [hj] at h1; cases h1
    | some j =>
      rw [hj] at h1
      replace h1 : ds[j]? = some w := h1
      show (ds.map W.d)[j]? = some (.d w)
      rw [List.getElem?_map, h1]; rfl
  obtain ⟨z, h2, h3⟩ := uk q2 h1'
  exact ⟨a, vs, i, z, rfl, ry, q1, h2, k _ _ _ _ _ (Le.refl _) S h3 h⟩
theorem Ja : RefR K UL U1 := by
  rintro Γ O H x y v u S rx ry Q R ⟨z, i, c, rfl, rfl, hl, h1, h⟩ k
  exact ⟨z, i, c, rx, ry, hl, h1, k _ _ _ _ _ (Le.refl _) S y9 h⟩
noncomputable def Yx (T U : TTW) : TTW := fun ρ O R => T ρ O fun c O1 => if c = true then U ρ O1 R else R false O1
noncomputable def wOr (T U : TTW) : TTW := fun ρ O R => T ρ O fun c O1 => if c = true then R true O1 else U ρ O1 R
noncomputable def Yy (T : TTW) : TTW := fun ρ O R => T ρ O fun c O1 => R (!c) O1
theorem VD {t u : TT} {T U : TTW} (h : yi K t T) (g : yi K u U) : yi K (Ut t u) (Yx T U) := by
  intro Γ O H ρ σ S r0 Q R hT k
  refine h Γ O H ρ σ S r0 _ _ hT fun Γ1 O1 H1 b l1 S1 h1 => ?_
  cases b with
  | true => rw [if_pos rfl] at h1 ⊢; exact g _ _ _ _ _ S1 (r0.mono l1) _ _ h1 fun Γ2 O2 H2 c l2 S2 h2 => k _ _ _ _ (l1.trans l2) S2 h2
  | false => rw [if_neg (by decide)] at h1 ⊢; exact k _ _ _ _ l1 S1 h1
theorem U2 {t u : TT} {T U : TTW} (h : yi K t T) (g : yi K u U) : yi K (tOr t u) (wOr T U) := by
  intro Γ O H ρ σ S r0 Q R hT k
  refine h Γ O H ρ σ S r0 _ _ hT fun Γ1 O1 H1 b l1 S1 h1 => ?_
  cases b with
  | false => rw [if_neg (by decide)] at h1 ⊢; exact g _ _ _ _ _ S1 (r0.mono l1) _ _ h1 fun Γ2 O2 H2 c l2 S2 h2 => k _ _ _ _ (l1.trans l2) S2 h2
  | true => rw [if_pos rfl] at h1 ⊢; exact k _ _ _ _ l1 S1 h1
theorem VE {t : TT} {T : TTW} (h : yi K t T) : yi K (Uu t) (Yy T) := by
  intro Γ O H ρ σ S r0 Q R hT k
  exact h Γ O H ρ σ S r0 _ _ hT fun Γ1 O1 H1 b l1 S1 h1 => k _ _ _ _ l1 S1 h1
noncomputable def XF (Ta Tb : TEW) : TEW := fun ρ O R => Ta ρ O fun x O1 => ∃ c, x = .d (.bool c) ∧ if c = true then Tb ρ O1 R else R (.d (.bool false)) O1
noncomputable def U3 (Ta Tb : TEW) : TEW := fun ρ O R => Ta ρ O fun x O1 => ∃ c, x = .d (.bool c) ∧ if c = true then R (.d (.bool true)) O1 else Tb ρ O1 R
theorem Yz {ta tb : TE} {Ta Tb : TEW} (ha : zj K ta Ta) (hb : zj K tb Tb) : zj K (Xq ta tb) (XF Ta Tb) := by
  intro Γ O H ρ σ S r0 Q R hT k
  refine ha Γ O H ρ σ S r0 _ _ hT fun Γ1 O1 H1 x v l1 S1 rx h1 => ?_
  obtain ⟨c, rfl, h1⟩ := h1
  refine ⟨c, rx, ?_⟩
  cases c with
  | true => rw [if_pos rfl] at h1 ⊢; exact hb _ _ _ _ _ S1 (r0.mono l1) _ _ h1 fun Γ2 O2 H2 y u l2 S2 ry h2 => k _ _ _ _ _ (l1.trans l2) S2 ry h2
  | false => rw [if_neg (by decide)] at h1 ⊢; exact k _ _ _ _ _ l1 S1 ya h1
theorem VF {ta tb : TE} {Ta Tb : TEW} (ha : zj K ta Ta) (hb : zj K tb Tb) : zj K (Uv ta tb) (U3 Ta Tb) := by
  intro Γ O H ρ σ S r0 Q R hT k
  refine ha Γ O H ρ σ S r0 _ _ hT fun Γ1 O1 H1 x v l1 S1 rx h1 => ?_
  obtain ⟨c, rfl, h1⟩ := h1
  refine ⟨c, rx, ?_⟩
  cases c with
  | false => rw [if_neg (by decide)] at h1 ⊢; exact hb _ _ _ _ _ S1 (r0.mono l1) _ _ h1 fun Γ2 O2 H2 y u l2 S2 ry h2 => k _ _ _ _ _ (l1.trans l2) S2 ry h2
  | true => rw [if_pos rfl] at h1 ⊢; exact k _ _ _ _ _ l1 S1 ya h1
noncomputable def wIf (T : TTW) (Ta Tb : TEW) : TEW := fun ρ O R => T ρ O fun c O1 => if c = true then Ta ρ O1 R else Tb ρ O1 R
theorem U4 {t : TT} {T : TTW} {ta tb : TE} {Ta Tb : TEW} (h : yi K t T) (ha : zj K ta Ta) (hb : zj K tb Tb) : zj K (tIf t ta tb) (wIf T Ta Tb) := by
  intro Γ O H ρ σ S r0 Q R hT k
  refine h Γ O H ρ σ S r0 _ _ hT fun Γ1 O1 H1 b l1 S1 h1 => ?_
  cases b with
  | true => rw [if_pos rfl] at h1 ⊢; exact ha _ _ _ _ _ S1 (r0.mono l1) _ _ h1 fun Γ2 O2 H2 y u l2 S2 ry h2 => k _ _ _ _ _ (l1.trans l2) S2 ry h2
  | false => rw [if_neg (by decide)] at h1 ⊢; exact hb _ _ _ _ _ S1 (r0.mono l1) _ _ h1 fun Γ2 O2 H2 y u l2 S2 ry h2 => k _ _ _ _ _ (l1.trans l2) S2 ry h2
noncomputable def v1 (O : OM) : W → Option Bool
  | .d .none => some false
  | .d (.bool b) => some b
  | .d (.int i) => some (i != 0)
  | .d (.str z) => some (z.length != 0)
  | .d (.list ds) => some (!ds.isEmpty)
  | .d (.tuple ds) => some (!ds.isEmpty)
  | .own a => match O a with
    | some (.lst ws) => some (!ws.isEmpty)
    | some (.dK kvs) => some (!kvs.isEmpty)
    | _ => none
  | _ => none
noncomputable def ul : W → Prop
  | .d (.str z) => z.length ≤ sizeLine
  | _ => True
theorem yn {α β : Type} {F : α → β → Prop} {xs : List α} {ys : List β} (r : Paired F xs ys) : xs.isEmpty = ys.isEmpty := by cases r <;> rfl
theorem qZ {Γ : Gh} {O : OM} {H : Hp} {w : W} {v : V} {b : Bool} (S : Sim K Γ O H) (r : relW K Γ w v) (e : v1 O w = some b) (hs : ul w) : uH K v H b := by
  cases w with
  | d x =>
    cases x with
    | none => rw [show v = .non from r]; cases e; rfl
    | bool i => rw [show v = .bl i from r]; cases e; rfl
    | int i => rw [show v = .int i from r]; cases e; rfl
    | str z =>
      rw [show v = .str z from r]; cases e
      refine ⟨hs, ?_⟩
      show (z.length != 0) = ((z.length : Int) != 0)
      cases hz : z.length with
      | zero => rfl
      | succ n => simp only [bne, Nat.beq_eq_true_eq]; simp; omega
    | list ds =>
      cases e
      obtain ⟨a, xs, rfl, h1, h2⟩ := r
      refine .inl ⟨xs, h1.same S.z, ?_⟩
      rw [← yn (zF h2 : relWs K Γ _ _)]
      simp
    | tuple ds =>
      cases e
      obtain ⟨a, xs, rfl, h1, h2⟩ := r
      refine .inr (.inl ⟨xs, h1.same S.z, ?_⟩)
      rw [← yn (zF h2 : relWs K Γ _ _)]
      simp
    | dict _ => exact r.elim
  | own a =>
    cases (show v = .ref a from r)
    simp only [v1] at e
    split at e
    · rename_i ws h
      cases e
      obtain ⟨_, vs, h1, h2⟩ := S.o _ _ h
      exact .inl ⟨vs, SqL.of h1, by rw [yn h2]⟩
    · rename_i kvs h
      cases e
      obtain ⟨_, vs, h1, h2⟩ := S.o _ _ h
      exact .inr (.inr ⟨vs, h1, by rw [yn h2]⟩)
    · cases e
  | row a i => cases e
noncomputable def YA (T : TEW) : TTW := fun ρ O R => T ρ O fun x O1 => ∃ b, v1 O1 x = some b ∧ ul x ∧ R b O1
theorem VG {t : TE} {T : TEW} (h : zj K t T) : yi K (fun σ H Q => t σ H fun x H' => ∃ k, uH K x H' k ∧ Q k H') (YA T) := by
  intro Γ O H ρ σ S r0 Q R hT k
  refine h Γ O H ρ σ S r0 _ _ hT fun Γ1 O1 H1 x v l1 S1 rx h1 => ?_
  obtain ⟨c, e, hs, h1⟩ := h1
  exact ⟨c, qZ S1 rx e hs, k _ _ _ _ l1 S1 h1⟩
noncomputable def YB : TAW := fun _ O R => R [] O
noncomputable def kC (Ta : TEW) (Tr : TAW) : TAW := fun ρ O R => Ta ρ O fun x O1 => Tr ρ O1 fun xs O2 => R (x :: xs) O2
theorem VH : yp K xA YB := fun Γ O H ρ σ S r0 Q R h k => k _ _ _ _ _ (Le.refl _) S .nil h
theorem YC {ta : TE} {t : TA} {Ta : TEW} {T : TAW} (ha : zj K ta Ta) (hr : yp K t T) : yp K (yZ ta t) (kC Ta T) := by
  intro Γ O H ρ σ S r0 Q R h k
  refine ha Γ O H ρ σ S r0 _ _ h fun Γ1 O1 H1 x v l1 S1 rx h1 => ?_
  exact hr Γ1 O1 H1 ρ σ S1 (r0.mono l1) _ _ h1 fun Γ2 O2 H2 ws vs l2 S2 rs h2 => k _ _ _ _ _ (l1.trans l2) S2 (.cons (rx.mono l2) rs) h2
noncomputable def U5 (T : TAW) : TEW := fun ρ O R => T ρ O fun ws O1 => ∃ ds, zU ws = some ds ∧ ds.length ≤ 1000 ∧ R (.d (.tuple ds)) O1
noncomputable def U6 (T : TAW) : TEW := fun ρ O R => T ρ O fun ws O1 => ∃ ds, zU ws = some ds ∧ ds.length ≤ 1000 ∧ R (.d (.list ds)) O1
theorem vH {n : Nat} (h : n ≤ 1000) : n ≤ sizeLine := Nat.le_of_lt (qf h)
theorem um {Γ : Gh} {O : OM} {H : Hp} {ds : List PyData} {vs : List V} {p : Addr} (S : Sim K Γ O H) (hr : Reps K Γ.Z ds vs) (hp : H p = none) : ∃ Γ', Le Γ Γ' ∧ Sim K Γ' O (upd H p (.tup vs)) ∧ relW K Γ' (.d (.tuple ds)) (.ref p) := by
  obtain ⟨l, S'⟩ := S.newD hp (.tup vs)
  exact ⟨_, l, S', p, vs, rfl, SqT.of zh, Reps.same l.z _ _ hr⟩
theorem ve {Γ : Gh} {O : OM} {H : Hp} {ds : List PyData} {vs : List V} {p : Addr} (S : Sim K Γ O H) (hr : Reps K Γ.Z ds vs) (hp : H p = none) : ∃ Γ', Le Γ Γ' ∧ Sim K Γ' O (upd H p (.lst vs)) ∧ relW K Γ' (.d (.list ds)) (.ref p) := by
  obtain ⟨l, S'⟩ := S.newD hp (.lst vs)
  exact ⟨_, l, S', p, vs, rfl, SqL.of zh, Reps.same l.z _ _ hr⟩
theorem jS {Γ : Gh} {O : OM} {H : Hp} {ws : List W} {vs : List V} {p : Addr} (S : Sim K Γ O H) (hr : relWs K Γ ws vs) (hp : H p = none) : O p = none ∧ Sim K Γ (updO O p (.lst ws)) (upd H p (.lst vs)) :=
  ⟨(S.free hp).2.1, S.newO hp (by intro _ h; cases h) ⟨vs, zh, hr⟩⟩
theorem VI {t : TA} {T : TAW} (h : yp K t T) : zj K (kq t) (U5 T) := by
  intro Γ O H ρ σ S r0 Q R hT k
  refine h Γ O H ρ σ S r0 _ _ hT fun Γ1 O1 H1 ws vs l1 S1 rs h1 => ?_
  obtain ⟨ds, e, hl, h1⟩ := h1
  rw [z9 e] at rs
  refine ⟨by rw [← Paired.length rs, List.length_map]; exact vH hl, fun p hp => ?_⟩
  obtain ⟨Γ', l, S', r'⟩ := um S1 (zq rs) hp
  exact k _ _ _ _ _ (l1.trans l) S' r' h1
theorem VJ {t : TA} {T : TAW} (h : yp K t T) : zj K (qN t) (U6 T) := by
  intro Γ O H ρ σ S r0 Q R hT k
  refine h Γ O H ρ σ S r0 _ _ hT fun Γ1 O1 H1 ws vs l1 S1 rs h1 => ?_
  obtain ⟨ds, e, hl, h1⟩ := h1
  rw [z9 e] at rs
  refine ⟨by rw [← Paired.length rs, List.length_map]; exact vH hl, fun p hp => ?_⟩
  obtain ⟨Γ', l, S', r'⟩ := ve S1 (zq rs) hp
  exact k _ _ _ _ _ (l1.trans l) S' r' h1
end
end L2
namespace L2
open PySem PySem.Spec PyProof.Rows
noncomputable abbrev SpW := List W → OM → WK → Prop
noncomputable def zc (K : PySem.W.Frag) (s : SpW) : Sp := fun vs H Q _ => ∃ Γ O ws R, Sim K Γ O H ∧ relWs K Γ ws vs ∧ s ws O R ∧ ∀ Γ' O' H' w v, Le Γ Γ' → Sim K Γ' O' H' → relW K Γ' w v → R w O' → Q v H'
noncomputable def Clo (R : WK) : WK := fun w O => R w O ∨ ∃ a ds, w = .own a ∧ O a = some (.lst (ds.map .d)) ∧ R (.d (.list ds)) (del O a)
noncomputable def yQ (N : List Str) (ws : List W) : WS := ws.map some ++ List.replicate (N.length - ws.length) none
section
variable {K : PySem.W.Frag}
theorem uo {Γ : Gh} {N : List Str} {ws : List W} {vs : List V} (h : relWs K Γ ws vs) : relR K Γ (yQ N ws) (L2.start N vs) := by
  unfold yQ L2.start
  rw [Paired.length h]
  refine Paired.appP ?_ ?_
  · induction h with
    | nil => exact .nil
    | cons a b ih => exact .cons a ih
  · generalize N.length - vs.length = n
    induction n with
    | zero => exact .nil
    | succ n ih => exact .cons trivial ih
theorem vJ {Γ : Gh} {O : OM} {H : Hp} {w : W} {v : V} {R : WK} {Q : VK} (S : Sim K Γ O H) (r : relW K Γ w v) (h : Clo R w O) (k : ∀ Γ' O' H' w v, Le Γ Γ' → Sim K Γ' O' H' → relW K Γ' w v → R w O' → Q v H') : Q v H := by
  rcases h with h | ⟨a, ds, rfl, e, h⟩
  · exact k _ _ _ _ _ (Le.refl _) S r h
  · obtain ⟨Γ', l, S', r'⟩ := S.freeze e
    cases (show v = .ref a from r)
    exact k _ _ _ _ _ l S' r' h
variable {P : Program} {w : World} {mg : Str → Option Value} {base : Heap}
theorem Fun.okW {x qual : Str} {st : Stmt} {f : Addr} {fd : FuncData} {N ps : List Str} {k : Nat} {s : SpW} (F : Fun K x qual st f fd) (S : FnScope N ps (defScope st)) (len : ∀ ws O R, s ws O R → ws.length = ps.length)
    (hbody : ∀ (cdv : Value) (A : Around) (outer : List Env) (sh : Shared) (H : Hp) (E : XK), Room k (A.deeper (envOfC qual (defScope st) sh.heap.objs.size f cdv)) →
      ∃ t T, PSs (xh CX0 P w K mg base N qual (defScope st) f cdv A outer sh H E).nox (defBody st) t ∧ RefS K t T ∧ ∀ ws O R, s ws O R → T { nx := fun _ O' => Clo R (.d .none) O', rt := Clo R } (yQ N ws) O) : FnOk P w K mg base CX0 (k + 1) f fd ps (zc K s) := by
  refine F.ok S (fun vs H Q E h => ?_) (fun cdv A outer sh H vs Q E hr h => ?_)
  · obtain ⟨Γ, O, ws, R, S1, r, hs, _⟩ := h
    rw [← Paired.length r]
    exact len ws O R hs
  · obtain ⟨t, T, h1, h2, h3⟩ := hbody cdv A outer sh H E hr
    obtain ⟨Γ, O, ws, R, S1, r, hs, kk⟩ := h
    refine ⟨t, h1, h2 Γ O H _ _ _ _ S1 (uo r) (h3 ws O R hs) ⟨fun Γ' O' H' ρ' σ' l S' r' h' => ?_, fun Γ' O' H' w v l S' r' h' => ?_, fun _ _ _ _ _ _ _ _ h => h.elim, fun _ _ _ _ _ _ _ _ h => h.elim⟩⟩
    · exact vJ S' vF h' fun Γ2 O2 H2 w v l2 => kk _ _ _ _ _ (l.trans l2)
    · exact vJ S' r' h' fun Γ2 O2 H2 w v l2 => kk _ _ _ _ _ (l.trans l2)
theorem Fun.okV {x qual : Str} {st : Stmt} {f : Addr} {fd : FuncData} {N ps : List Str} {k : Nat} {s : SpW} {t : TS} {T : TSW} (F : Fun K x qual st f fd) (S : FnScope N ps (defScope st)) (len : ∀ ws O R, s ws O R → ws.length = ps.length)
    (hP : ∀ (cdv : Value) (A : Around) (outer : List Env) (sh : Shared) (H : Hp) (E : XK), Room k (A.deeper (envOfC qual (defScope st) sh.heap.objs.size f cdv)) → PSs (xh CX0 P w K mg base N qual (defScope st) f cdv A outer sh H E).nox (defBody st) t)
    (hR : RefS K t T) (hb : ∀ ws O R, s ws O R → T { nx := fun _ O' => Clo R (.d .none) O', rt := Clo R } (yQ N ws) O) : FnOk P w K mg base CX0 (k + 1) f fd ps (zc K s) :=
  F.okW S len fun cdv A outer sh H E hr => ⟨t, T, hP cdv A outer sh H E hr, hR, hb⟩
theorem FunD.okW {x qual : Str} {st : Stmt} {ds : List Value} {f : Addr} {fd : FuncData} {N ps : List Str} {k : Nat} {s : SpW} (F : FunD K x qual st ds f fd) (S : FnScope N ps (defScope st)) (len : ∀ ws O R, s ws O R → ws.length = ps.length)
    (hbody : ∀ (cdv : Value) (A : Around) (outer : List Env) (sh : Shared) (H : Hp) (E : XK), Room k (A.deeper (envOfC qual (defScope st) sh.heap.objs.size f cdv)) →
      ∃ t T, PSs (xh CX0 P w K mg base N qual (defScope st) f cdv A outer sh H E).nox (defBody st) t ∧ RefS K t T ∧ ∀ ws O R, s ws O R → T { nx := fun _ O' => Clo R (.d .none) O', rt := Clo R } (yQ N ws) O) : FnOk P w K mg base CX0 (k + 1) f fd ps (zc K s) := by
  refine F.ok S (fun vs H Q E h => ?_) (fun cdv A outer sh H vs Q E hr h => ?_)
  · obtain ⟨Γ, O, ws, R, S1, r, hs, _⟩ := h
    rw [← Paired.length r]
    exact len ws O R hs
  · obtain ⟨t, T, h1, h2, h3⟩ := hbody cdv A outer sh H E hr
    obtain ⟨Γ, O, ws, R, S1, r, hs, kk⟩ := h
    refine ⟨t, h1, h2 Γ O H _ _ _ _ S1 (uo r) (h3 ws O R hs) ⟨fun Γ' O' H' ρ' σ' l S' r' h' => ?_, fun Γ' O' H' w v l S' r' h' => ?_, fun _ _ _ _ _ _ _ _ h => h.elim, fun _ _ _ _ _ _ _ _ h => h.elim⟩⟩
    · exact vJ S' vF h' fun Γ2 O2 H2 w v l2 => kk _ _ _ _ _ (l.trans l2)
    · exact vJ S' r' h' fun Γ2 O2 H2 w v l2 => kk _ _ _ _ _ (l.trans l2)
theorem FunD.okV {x qual : Str} {st : Stmt} {ds : List Value} {f : Addr} {fd : FuncData} {N ps : List Str} {k : Nat} {s : SpW} {t : TS} {T : TSW} (F : FunD K x qual st ds f fd) (S : FnScope N ps (defScope st)) (len : ∀ ws O R, s ws O R → ws.length = ps.length)
    (hP : ∀ (cdv : Value) (A : Around) (outer : List Env) (sh : Shared) (H : Hp) (E : XK), Room k (A.deeper (envOfC qual (defScope st) sh.heap.objs.size f cdv)) → PSs (xh CX0 P w K mg base N qual (defScope st) f cdv A outer sh H E).nox (defBody st) t)
    (hR : RefS K t T) (hb : ∀ ws O R, s ws O R → T { nx := fun _ O' => Clo R (.d .none) O', rt := Clo R } (yQ N ws) O) : FnOk P w K mg base CX0 (k + 1) f fd ps (zc K s) :=
  F.okW S len fun cdv A outer sh H E hr => ⟨t, T, hP cdv A outer sh H E hr, hR, hb⟩
end
section
variable {K : PySem.W.Frag}
theorem v6 {Γ : Gh} : ∀ {vs : List V}, vs.all scV = true → relWs K Γ (vs.map ofV) vs
  | [], _ => .nil
  | v :: vs, h => by
    simp at h
    exact .cons (uL h.1) (v6 (by simpa using h.2))
noncomputable def qF (s : SpW) (dvs : List V) (T : TAW) : TEW := fun ρ O R => T ρ O fun ws O1 => s (ws ++ dvs.map ofV) O1 R
theorem YD {s : SpW} {dvs : List V} {t : TA} {T : TAW} (h : yp K t T) (hd : dvs.all scV = true := by rfl) : zj K (qB (zc K s) dvs E0 t) (qF s dvs T) := by
  intro Γ O H ρ σ S r0 Q R hT k
  refine h Γ O H ρ σ S r0 _ _ hT fun Γ1 O1 H1 ws vs l1 S1 rs h1 => ?_
  exact ⟨Γ1, O1, _, R, S1, Paired.appP rs (v6 hd), h1, fun Γ2 O2 H2 w v l2 S2 r2 h2 => k _ _ _ _ _ (l1.trans l2) S2 r2 h2⟩
noncomputable def wCB (r : List W → OM → WK → Prop) (T : TAW) : TEW := fun ρ O R => T ρ O fun ws O1 => r ws O1 R
theorem U7 {r : List V → Hp → VK → Prop} {rw : List W → OM → WK → Prop} {t : TA} {T : TAW} (hr : RefC K r rw) (h : yp K t T) : zj K (tCB r t) (wCB rw T) := by
  intro Γ O H ρ σ S r0 Q R hT k
  refine h Γ O H ρ σ S r0 _ _ hT fun Γ1 O1 H1 ws vs l1 S1 rs h1 => ?_
  exact hr _ _ _ _ _ S1 rs _ _ h1 fun Γ2 O2 H2 w v l2 S2 r2 h2 => k _ _ _ _ _ (l1.trans l2) S2 r2 h2
theorem uq {Γ : Gh} {f : Str} : ∀ {fs : List (Str × W)} {vs : List (Str × V)}, yO K Γ fs vs → (fs.lookup f = none → vs.lookup f = none) ∧ ∀ w, fs.lookup f = some w → ∃ v, vs.lookup f = some v ∧ relW K Γ w v := by
  intro fs vs h
  unfold yO at h
  induction h with
  | nil => exact ⟨fun _ => rfl, fun w e => by cases e⟩
  | cons a b ih =>
    rename_i p q ps qs
    obtain ⟨k, x⟩ := p
    obtain ⟨k', y⟩ := q
    obtain ⟨e1, e2⟩ := a
    cases (show k = k' from e1)
    simp only [List.lookup_cons]
    cases e : f == k with
    | true => exact ⟨fun z => (by cases z), fun w z => by cases z; exact ⟨_, rfl, e2⟩⟩
    | false => exact ih
noncomputable def XG (C : Addr) (m : Str) (s : SpW) (Ta : TEW) (T : TAW) : TEW := fun ρ O R => Ta ρ O fun x O1 => ∃ a dx fs, x = .own a ∧ O1 a = some (.ins C dx fs) ∧ fs.lookup m = none ∧ T ρ O1 fun ws O2 => s (x :: ws) O2 R
theorem YE {C : Addr} {m : Str} {s : SpW} {ta : TE} {t : TA} {Ta : TEW} {T : TAW} (ha : zj K ta Ta) (h : yp K t T) : zj K (ud C m (zc K s) [] E0 ta t) (XG C m s Ta T) := by
  intro Γ O H ρ σ S r0 Q R hT k
  refine ha Γ O H ρ σ S r0 _ _ hT fun Γ1 O1 H1 x v l1 S1 rx h1 => ?_
  obtain ⟨a, dx, fs, rfl, ho, hm, h1⟩ := h1
  cases (show v = .ref a from rx)
  obtain ⟨_, vs, q1, q2⟩ := S1.o _ _ ho
  refine ⟨a, dx, vs, rfl, q1, (uq q2).1 hm, ?_⟩
  refine h _ _ _ _ _ S1 (r0.mono l1) _ _ h1 fun Γ2 O2 H2 ws us l2 S2 rs h2 => ?_
  rw [List.append_nil]
  exact ⟨Γ2, O2, _, R, S2, .cons xL rs, h2, fun Γ3 O3 H3 w v l3 S3 r3 h3 => k _ _ _ _ _ ((l1.trans l2).trans l3) S3 r3 h3⟩
theorem Sim.junk {Γ : Gh} {O : OM} {H : Hp} (S : Sim K Γ O H) {p : Addr} (hp : H p = none) (o : HO) : Sim K Γ O (upd H p o) := by
  obtain ⟨hz, hO, hG⟩ := S.free hp
  refine ⟨fun b u e => ?_, fun a oo e => ?_, fun a rs e => ?_, xi S.f (S.f.free hp), S.gn, S.fg, S.fd, S.u⟩
  · rw [za (fun z => by rw [z, hz] at e; cases e)]; exact S.z _ _ e
  · have hap : a ≠ p := fun z => by rw [z, hO] at e; cases e
    obtain ⟨h1, h2⟩ := S.o _ _ e
    refine ⟨h1, h2.keep (Le.refl _) (za hap) rfl fun rs r hg ⟨rows, hrw⟩ hr => ?_⟩
    subst hrw
    obtain ⟨_, _, vs, q⟩ := S.rowIn e hg hr
    exact ⟨za (fun z => by rw [z, hp] at q; cases q), rfl, rfl⟩
  · obtain ⟨o', h⟩ := S.gd _ _ e
    exact ⟨o', by rw [za (zz h hp)]; exact h⟩
noncomputable def XH (C : Addr) (s : SpW) (T : TAW) : TEW := fun ρ O R => T ρ O fun ws O1 => ∀ x dx, O1 x = none → s (.own x :: ws) (updO O1 x (.ins C dx [])) fun w O2 => w = .d .none ∧ R (.own x) O2
theorem YF {C : Addr} {s : SpW} {t : TA} {T : TAW} (h : yp K t T) : zj K (kt C (zc K s) [] E0 t) (XH C s T) := by
  intro Γ O H ρ σ S r0 Q R hT k
  refine h _ _ _ _ _ S r0 _ _ hT fun Γ1 O1 H1 ws vs l1 S1 rs h1 => ?_
  intro x dx hx hdx hne
  have hx' : upd H1 dx (.own x) x = none := by rw [za (Ne.symm hne)]; exact hx
  have S2 := S1.junk hdx (.own x)
  have S3 := S2.newO hx' (o := .ins C dx []) (oo := .ins C dx []) (by intro _ h; cases h) ⟨[], zh, .nil⟩
  rw [List.append_nil]
  refine ⟨Γ1, _, _, _, S3, .cons xL rs, h1 x dx (S2.free hx').2.1, fun Γ2 O2 H2 w v l2 S4 r2 h2 => ?_⟩
  obtain ⟨rfl, h2⟩ := h2
  exact ⟨r2, k _ _ _ _ _ (l1.trans l2) S4 xL h2⟩
noncomputable def kD (O : OM) (w : W) : Option (List PyData) := match yh w with
  | some ds => some ds
  | none => (zr O w).bind zU
noncomputable def uM (O : OM) (w : W) : Option Nat := match yh w with
  | some ds => some ds.length
  | none => (zr O w).map (·.length)
noncomputable def YG : List W → OM → WK → Prop := fun xs O R => ∃ w n, xs = [w] ∧ uM O w = some n ∧ R (.d (.int n)) O
theorem Jb : RefC K (fun xs H Q => ∃ p ys, xs = [.ref p] ∧ (SqL K H p ys ∨ SqT K H p ys) ∧ Q (.int ys.length) H) YG := by
  rintro Γ O H xs vs S rs Q R ⟨w, n, rfl, e, h⟩ k
  cases rs with
  | cons rx t =>
    cases t
    unfold uM at e
    split at e
    · rename_i ds hT
      cases e
      obtain ⟨a, vs, e1, h1, h2⟩ := yH S rx hT
      subst e1
      refine ⟨a, vs, rfl, .inr h1, k _ _ _ _ _ (Le.refl _) S ?_ h⟩
      rw [← Paired.length h2, List.length_map]; rfl
    · cases hL : zr O w with
      | none => rw [hL] at e; cases e
      | some ws =>
        rw [hL] at e
        cases e
        obtain ⟨a, vs, e1, h1, h2⟩ := zJ S rx hL
        subst e1
        refine ⟨a, vs, rfl, .inl h1, k _ _ _ _ _ (Le.refl _) S ?_ h⟩
        rw [← Paired.length h2]; rfl
noncomputable def XI : List W → OM → WK → Prop := fun xs O R => ∃ z, xs = [.d (.str z)] ∧ z.length ≤ sizeLine ∧ R (.d (.int z.length)) O
theorem U8 : RefC K (fun xs H Q => ∃ z, xs = [.str z] ∧ z.length ≤ sizeLine ∧ Q (.int z.length) H) XI := by
  rintro Γ O H xs vs S rs Q R ⟨z, rfl, e, h⟩ k
  cases rs with
  | cons rx t =>
    cases t
    exact ⟨z, by rw [show _ = V.str z from rx], e, k _ _ _ _ _ (Le.refl _) S xa h⟩
noncomputable def q5 : List W → OM → WK → Prop := fun xs O R => ∃ w ds, xs = [w] ∧ kD O w = some ds ∧ R (.d (.tuple ds)) O
theorem VL : RefC K (fun xs H Q => ∃ p ys, xs = [.ref p] ∧ ((SqL K H p ys ∧ ∀ l, H l = none → Q (.ref l) (upd H l (.tup ys))) ∨ (SqT K H p ys ∧ Q (.ref p) H))) q5 := by
  rintro Γ O H xs vs S rs Q R ⟨w, ds, rfl, e, h⟩ k
  cases rs with
  | cons rx t =>
    cases t
    unfold kD at e
    split at e
    · rename_i es hT
      cases e
      obtain ⟨a, vs, e1, h1, h2⟩ := yH S rx hT
      subst e1
      refine ⟨a, vs, rfl, .inr ⟨h1, k _ _ _ _ _ (Le.refl _) S ?_ h⟩⟩
      cases w with
      | d x => cases x <;> simp [yh] at hT; subst hT; exact rx
      | own b => cases hT
      | row b i => cases hT
    · cases hL : zr O w with
      | none => rw [hL] at e; cases e
      | some ws =>
        rw [hL] at e
        obtain ⟨a, vs, e1, h1, h2⟩ := zJ S rx hL
        rw [z9 (show zU ws = some ds from e)] at h2
        subst e1
        refine ⟨a, vs, rfl, .inl ⟨h1, fun l hl => ?_⟩⟩
        obtain ⟨Γ', le, S', r'⟩ := um S (zq h2) hl
        exact k _ _ _ _ _ le S' r' h
noncomputable def XJ : List W → OM → WK → Prop := fun xs O R => ∃ i, (xs = [.d (.int i)] ∨ ∃ b : Bool, xs = [.d (.bool b)] ∧ i = if b then 1 else 0) ∧ R (.d (.int i)) O
theorem U9 : RefC K (fun xs H Q => (∃ i, xs = [.int i] ∧ Q (.int i) H) ∨ ∃ k, xs = [.bl k] ∧ Q (.int (if k then 1 else 0)) H) XJ := by
  rintro Γ O H xs vs S rs Q R ⟨i, hx, h⟩ k
  rcases hx with rfl | ⟨b, rfl, rfl⟩
  · cases rs with
    | cons rx t => cases t; exact .inl ⟨i, by rw [show _ = V.int i from rx], k _ _ _ _ _ (Le.refl _) S xa h⟩
  · cases rs with
    | cons rx t => cases t; exact .inr ⟨b, by rw [show _ = V.bl b from rx], k _ _ _ _ _ (Le.refl _) S xa h⟩
noncomputable def kE : TSW := fun D ρ O => D.nx ρ O
noncomputable def yU (T U : TSW) : TSW := fun D ρ O => T { D with nx := U D } ρ O
noncomputable def kG (T : TEW) : TSW := fun D ρ O => T ρ O fun _ O1 => D.nx ρ O1
noncomputable def YH (T : TEW) : TSW := fun D ρ O => T ρ O D.rt
noncomputable def Jc : TSW := fun D _ O => D.rt (.d .none) O
noncomputable def YI (c : TTW) (T U : TSW) : TSW := fun D ρ O => c ρ O fun b O1 => if b = true then T D ρ O1 else U D ρ O1
noncomputable def XL : TSW := fun D ρ O => D.ct ρ O
theorem YJ : RefS K Xr kE := fun Γ O H ρ σ D DW S r h e => e.nx _ _ _ _ _ (Le.refl _) S r h
theorem YK : RefS K Xs XL := fun Γ O H ρ σ D DW S r h e => e.ct _ _ _ _ _ (Le.refl _) S r h
theorem VM {t u : TS} {T U : TSW} (h : RefS K t T) (g : RefS K u U) : RefS K (Ux t u) (yU T U) := fun Γ O H ρ σ D DW S r hT e =>
  h Γ O H ρ σ { D with nx := u D } { DW with nx := U DW } S r hT ⟨fun Γ' O' H' ρ' σ' l S' r' h' => g _ _ _ _ _ _ _ S' r' h' (e.mono l), e.rt, e.bk, e.ct⟩
theorem YL {t : TE} {T : TEW} (h : zj K t T) : RefS K (Xt t) (kG T) := fun Γ O H ρ σ D DW S r hT e =>
  h _ _ _ _ _ S r _ _ hT fun Γ1 O1 H1 w v l S1 r1 h1 => e.nx _ _ _ _ _ l S1 (r.mono l) h1
theorem VN {t : TE} {T : TEW} (h : zj K t T) : RefS K (Uy t) (YH T) := fun Γ O H ρ σ D DW S r hT e =>
  h _ _ _ _ _ S r _ _ hT fun Γ1 O1 H1 w v l S1 r1 h1 => e.rt _ _ _ _ _ l S1 r1 h1
theorem VO {c : TT} {C : TTW} {t u : TS} {T U : TSW} (hc : yi K c C) (h : RefS K t T) (g : RefS K u U) : RefS K (Uz c t u) (YI C T U) := fun Γ O H ρ σ D DW S r hT e => by
  refine hc _ _ _ _ _ S r _ _ hT fun Γ1 O1 H1 b l S1 h1 => ?_
  cases b with
  | true => rw [if_pos rfl] at h1 ⊢; exact h _ _ _ _ _ _ _ S1 (r.mono l) h1 (e.mono l)
  | false => rw [if_neg (by decide)] at h1 ⊢; exact g _ _ _ _ _ _ _ S1 (r.mono l) h1 (e.mono l)
noncomputable def YM (T : TEW) (G : TGW) : TSW := fun D ρ O => T ρ O fun x O1 => G x ρ O1 D.nx
theorem VP {t : TE} {T : TEW} {g : TG} {G : TGW} (h : zj K t T) (hg : RefG K g G) : RefS K (qL t g) (YM T G) := fun Γ O H ρ σ D DW S r hT e =>
  h _ _ _ _ _ S r _ _ hT fun Γ1 O1 H1 w v l S1 r1 h1 => hg _ _ _ _ _ _ _ S1 (r.mono l) r1 _ _ h1 fun Γ2 O2 H2 ρ2 σ2 l2 => e.nx _ _ _ _ _ (l.trans l2)
noncomputable def ur (i : Nat) : TGW := fun w ρ O R => R (ρ.set i (some w)) O
theorem YN {i : Nat} : RefG K (vz i) (ur i) := fun Γ O H ρ σ w v S r rw Q R h k => k _ _ _ _ _ (Le.refl _) S (Paired.setP r (show vE K Γ (some w) (some v) from rw)) h
noncomputable def Qa : TGsW := fun ds ρ O R => ds = [] ∧ R ρ O
noncomputable def XM (G : TGW) (U : TGsW) : TGsW := fun ds ρ O R => ∃ e es, ds = e :: es ∧ G (.d e) ρ O fun ρ' O' => U es ρ' O' R
theorem YO : RefGs K UA Qa := by
  rintro Γ O H ρ σ ds vs S r rs Q R ⟨rfl, h⟩ k
  exact ⟨rs, k _ _ _ _ _ (Le.refl _) S r h⟩
theorem Zy {t : TG} {u : TGs} {G : TGW} {U : TGsW} (h : RefG K t G) (g : RefGs K u U) : RefGs K (Xu t u) (XM G U) := by
  rintro Γ O H ρ σ ds vs S r rs Q R ⟨e, es, rfl, hh⟩ k
  obtain ⟨x, xs, rfl, h1, h2⟩ := rs
  refine ⟨x, xs, rfl, h _ _ _ _ _ _ _ S r (Q3 h1) _ _ hh fun Γ1 O1 H1 ρ1 σ1 l1 S1 r1 q1 => ?_⟩
  exact g _ _ _ _ _ _ _ S1 r1 (Reps.same l1.z _ _ h2) _ _ q1 fun Γ2 O2 H2 ρ2 σ2 l2 => k _ _ _ _ _ (l1.trans l2)
noncomputable def Qb (n : Nat) (U : TGsW) : TGW := fun w ρ O R => ∃ ds, yh w = some ds ∧ ds.length = n ∧ U ds ρ O R
theorem YQ {n : Nat} {t : TGs} {U : TGsW} (h : RefGs K t U) : RefG K (Z8 K n t) (Qb n U) := by
  rintro Γ O H ρ σ w v S r rw Q R ⟨ds, e, hl, hh⟩ k
  obtain ⟨a, vs, e1, h1, h2⟩ := yH S rw e
  refine ⟨a, vs, e1, h1, by rw [← Paired.length h2, List.length_map]; exact hl, h _ _ _ _ _ _ _ S r (zq h2) _ _ hh k⟩
end
end L2
namespace L2
open PySem PySem.Spec PyProof.Rows
section
variable {K : PySem.W.Frag}
noncomputable def Qc (K : PySem.W.Frag) (Γ : Gh) (J : It) (ws : List W) (keep : OM → Prop) : Prop := ∀ i Γ' O' H', Same Γ.Z Γ'.Z → (∀ a rs, Γ.G a = some rs → ∃ more, Γ'.G a = some (rs ++ more)) → Sim K Γ' O' H' → keep O' →
  (∀ w, ws[i]? = some w → J.go i H' ∧ ∀ x H2, J.yld i H' x H2 → ∃ Γ2, Le Γ' Γ2 ∧ Sim K Γ2 O' H2 ∧ relW K Γ2 w x) ∧ (i = ws.length → J.stop i H')
noncomputable abbrev TIW := WS → OM → (List W → (OM → Prop) → OM → Prop) → Prop
noncomputable def vf (K : PySem.W.Frag) (t : TI) (T : TIW) : Prop := ∀ Γ O H ρ σ, Sim K Γ O H → relR K Γ ρ σ → ∀ (Q : It → Hp → Prop) (R : List W → (OM → Prop) → OM → Prop), T ρ O R → (∀ Γ' O' H' J ws keep, Le Γ Γ' → Sim K Γ' O' H' → Qc K Γ' J ws keep → R ws keep O' → Q J H') → t σ H Q
theorem relW.up {Γ Γ' : Gh} (hz : Same Γ.Z Γ'.Z) (hg : ∀ a rs, Γ.G a = some rs → ∃ more, Γ'.G a = some (rs ++ more)) {w : W} {v : V} (h : relW K Γ w v) : relW K Γ' w v := by
  have h1 : relW K ⟨Γ'.Z, Γ'.G, Γ.F⟩ w v := relW.mono (Γ := Γ) (Γ' := ⟨Γ'.Z, Γ'.G, Γ.F⟩) ⟨rfl, hz, hg⟩ h
  cases w <;> exact h1
noncomputable def XN (T : TEW) : TIW := fun ρ O R => T ρ O fun w O1 => ∃ ws, zr O1 w = some ws ∧ R ws (fun O' => zr O' w = some ws) O1
theorem Zz {t : TE} {T : TEW} (h : zj K t T) : vf K (kh K t) (XN T) := by
  intro Γ O H ρ σ S r Q R hT k
  refine h _ _ _ _ _ S r _ _ hT fun Γ1 O1 H1 w v l1 S1 r1 h1 => ?_
  obtain ⟨ws, e, h1⟩ := h1
  obtain ⟨a, vs, rfl, q1, q2⟩ := zJ S1 r1 e
  refine ⟨a, rfl, ⟨vs, q1⟩, k _ _ _ _ _ _ l1 S1 (fun i Γ' O' H' hz hg S' e' => ?_) h1⟩
  obtain ⟨a', vs', ea, q1', q2'⟩ := zJ S' (r1.up hz hg) e'
  cases ea
  refine ⟨fun w' hw => ?_, fun hi => ⟨vs', q1', by rw [← Paired.length q2', hi]; exact Nat.le_refl _⟩⟩
  obtain ⟨x, hx, rx⟩ := Paired.getP q2' hw
  refine ⟨⟨vs', x, q1', hx⟩, fun y H2 ⟨e2, hy⟩ => ?_⟩
  subst e2
  have := hy vs' q1'
  rw [hx] at this
  cases this
  exact ⟨Γ', Le.refl _, S', rx⟩
noncomputable def Qd (T : TEW) : TIW := fun ρ O R => T ρ O fun w O1 => ∃ ds, yh w = some ds ∧ R (ds.map .d) (fun _ => True) O1
theorem YR {t : TE} {T : TEW} (h : zj K t T) : vf K (Z9 K t) (Qd T) := by
  intro Γ O H ρ σ S r Q R hT k
  refine h _ _ _ _ _ S r _ _ hT fun Γ1 O1 H1 w v l1 S1 r1 h1 => ?_
  obtain ⟨ds, e, h1⟩ := h1
  obtain ⟨a, vs, rfl, q1, q2⟩ := yH S1 r1 e
  refine ⟨a, rfl, ⟨vs, q1⟩, k _ _ _ _ _ _ l1 S1 (fun i Γ' O' H' hz hg S' e' => ?_) h1⟩
  obtain ⟨a', vs', ea, q1', q2'⟩ := yH S' (r1.up hz hg) e
  cases ea
  refine ⟨fun w' hw => ?_, fun hi => ⟨vs', q1', by rw [← Paired.length q2', hi]; exact Nat.le_refl _⟩⟩
  obtain ⟨x, hx, rx⟩ := Paired.getP q2' hw
  refine ⟨⟨vs', x, q1', hx⟩, fun y H2 ⟨e2, hy⟩ => ?_⟩
  subst e2
  have := hy vs' q1'
  rw [hx] at this
  cases this
  exact ⟨Γ', Le.refl _, S', rx⟩
theorem Qe {Γ : Gh} {n : Nat} {f : Nat → Int} {J : It} (hgo : ∀ i H, i < n → J.go i H) (hy : ∀ i H x H', J.yld i H x H' → H' = H ∧ x = .int (f i)) (hs : ∀ i H, n ≤ i → J.stop i H) : Qc K Γ J ((List.range n).map fun i => .d (.int (f i))) fun _ => True := by
  intro i Γ' O' H' hz hg S' _
  refine ⟨fun w hw => ?_, fun hi => hs i _ (by rw [hi]; simp)⟩
  rw [List.getElem?_map] at hw
  cases hr : (List.range n)[i]? with
  | none => rw [hr] at hw; cases hw
  | some j =>
    rw [hr] at hw
    cases hw
    obtain ⟨hi, hj⟩ := List.getElem?_eq_some_iff.mp hr
    simp at hi hj
    subst hj
    refine ⟨hgo i _ hi, fun x H2 y => ?_⟩
    obtain ⟨rfl, rfl⟩ := hy i _ x H2 y
    exact ⟨Γ', Le.refl _, S', xa⟩
noncomputable def XO (T : TAW) : TIW := fun ρ O R => T ρ O fun ws O1 => ∃ j : Int, ws = [.d (.int j)] ∧ -(2 ^ 62) ≤ j ∧ j < 2 ^ 62 ∧ R ((List.range j.toNat).map fun (i : Nat) => .d (.int i)) (fun _ => True) O1
theorem ZA {t : TA} {T : TAW} (h : yp K t T) : vf K (Xv t) (XO T) := by
  intro Γ O H ρ σ S r Q R hT k
  refine h _ _ _ _ _ S r _ _ hT fun Γ1 O1 H1 ws vs l1 S1 r1 h1 => ?_
  obtain ⟨j, rfl, b1, b2, h1⟩ := h1
  cases r1 with
  | cons rx t =>
    cases t
    refine ⟨j, by rw [show _ = V.int j from rx], b1, b2, k _ _ _ _ _ _ l1 S1 (Qe (f := fun i => (i : Int)) (fun i H hi => hi) (fun i H x H' ⟨e1, e2⟩ => ⟨e1, by rw [e2, Int.zero_add]⟩) fun i H hi => hi) h1⟩
noncomputable def XQ (T : TAW) : TIW := fun ρ O R => T ρ O fun ws O1 => ∃ w us ds, ws = [w] ∧ zr O1 w = some us ∧ zU us = some ds ∧ R ((List.range ds.length).zipWith (fun (i : Nat) d => W.d (.tuple [.int i, d])) ds) (fun O' => zr O' w = some us) O1
theorem ZB {t : TA} {T : TAW} (h : yp K t T) : vf K (kA K t) (XQ T) := by
  intro Γ O H ρ σ S r Q R hT k
  refine h _ _ _ _ _ S r _ _ hT fun Γ1 O1 H1 ws vs l1 S1 r1 h1 => ?_
  obtain ⟨w, us, ds, rfl, e, hd, h1⟩ := h1
  cases r1 with
  | cons rx t =>
    cases t
    obtain ⟨a, vs, rfl, q1, q2⟩ := zJ S1 rx e
    refine ⟨a, rfl, ⟨vs, q1⟩, k _ _ _ _ _ _ l1 S1 (fun i Γ' O' H' hz hg S' e' => ?_) h1⟩
    obtain ⟨a', vs', ea, q1', q2'⟩ := zJ S' (rx.up hz hg) e'
    cases ea
    rw [z9 hd] at q2'
    have hl : ds.length = vs'.length := by rw [← Paired.length q2', List.length_map]
    refine ⟨fun w' hw => ?_, fun hi => ⟨vs', q1', by rw [hi]; simp; omega⟩⟩
    rw [List.getElem?_zipWith] at hw
    cases hr : (List.range ds.length)[i]? with
    | none => rw [hr] at hw; cases hw
    | some j =>
      rw [hr] at hw
      cases hdi : ds[i]? with
      | none => rw [hdi] at hw; cases hw
      | some d =>
        rw [hdi] at hw
        cases hw
        obtain ⟨hi, hj⟩ := List.getElem?_eq_some_iff.mp hr
        simp at hi hj
        subst hj
        obtain ⟨x, hx, rx'⟩ := Paired.getP q2' (i := i) (x := .d d) (by rw [List.getElem?_map, hdi]; rfl)
        refine ⟨⟨vs', x, q1', hx⟩, fun y H2 ⟨t, y', e1, e2, e3, hy⟩ => ?_⟩
        have hy' := hy vs' q1'
        rw [hx] at hy'
        cases hy'
        subst e1 e3
        obtain ⟨Γ2, l2, S2, r2⟩ := um S' (ds := [.int i, d]) (vs := [.int i, x]) ⟨_, _, rfl, rfl, _, _, rfl, rx', rfl⟩ e2
        exact ⟨Γ2, l2, S2, r2⟩
noncomputable def yC (ws : List W) (keep : OM → Prop) (G : TGW) (TB : TSW) (D : EndsW) (ρ : WS) (O : OM) : Prop := ∃ Pv : Nat → WS → OM → Prop, Pv 0 ρ O ∧ (∀ i ρ O, Pv i ρ O → keep O) ∧
  (∀ i w ρ O, ws[i]? = some w → Pv i ρ O → G w ρ O fun ρ' O' => TB { D with nx := Pv (i + 1), ct := Pv (i + 1), bk := D.nx } ρ' O') ∧ ∀ ρ O, Pv ws.length ρ O → D.nx ρ O
noncomputable def Qf (Wi : TIW) (G : TGW) (TB : TSW) : TSW := fun D ρ O => Wi ρ O fun ws keep O1 => yC ws keep G TB D ρ O1
theorem VQ {wi : TI} {Wi : TIW} {g : TG} {G : TGW} {tb : TS} {TB : TSW} (hi : vf K wi Wi) (hg : RefG K g G) (hb : RefS K tb TB) : RefS K (UD wi g tb) (Qf Wi G TB) := by
  intro Γ O H ρ σ D DW S r hT e
  refine hi _ _ _ _ _ S r _ _ hT fun Γ1 O1 H1 J ws keep l1 S1 ok h1 => ?_
  obtain ⟨Pv, p0, pk, ps, pd⟩ := h1
  refine ⟨fun i m σ' H' => i ≤ ws.length ∧ m = ws.length - i ∧ ∃ Γ' O' ρ', Le Γ1 Γ' ∧ Sim K Γ' O' H' ∧ relR K Γ' ρ' σ' ∧ Pv i ρ' O', ⟨_, Nat.zero_le _, rfl, Γ1, O1, ρ, Le.refl _, S1, r.mono l1, p0⟩, ?_⟩
  rintro i m σ' H' ⟨hi, rfl, Γ', O', ρ', l', S', r', p'⟩
  obtain ⟨ok1, ok2⟩ := ok i Γ' O' H' l'.z l'.g S' (pk _ _ _ p')
  by_cases hlt : i < ws.length
  · obtain ⟨go, y⟩ := ok1 _ (List.getElem?_eq_getElem hlt)
    refine .inr ⟨go, fun σ2 H2 => ∃ Γ2 O2 ρ2, Le Γ1 Γ2 ∧ Sim K Γ2 O2 H2 ∧ relR K Γ2 ρ2 σ2 ∧ Pv (i + 1) ρ2 O2, fun σ2 H2 ⟨Γ2, O2, ρ2, l2, S2, r2, p2⟩ => ⟨ws.length - (i + 1), by omega, hlt, rfl, Γ2, O2, ρ2, l2, S2, r2, p2⟩, fun x H2 hy => ?_⟩
    obtain ⟨Γ2, l2, S2, rx⟩ := y x H2 hy
    refine hg _ _ _ _ _ _ _ S2 (r'.mono l2) rx _ _ (ps i _ ρ' O' (List.getElem?_eq_getElem hlt) p') fun Γ3 O3 H3 ρ3 σ3 l3 S3 r3 h3 => ?_
    have l13 := (l'.trans l2).trans l3
    refine hb _ _ _ _ _ _ _ S3 r3 h3 ⟨fun Γ4 O4 H4 ρ4 σ4 l4 S4 r4 h4 => ⟨Γ4, O4, ρ4, l13.trans l4, S4, r4, h4⟩, fun Γ4 O4 H4 w v l4 => e.rt _ _ _ _ _ ((l1.trans l13).trans l4), fun Γ4 O4 H4 ρ4 σ4 l4 => e.nx _ _ _ _ _ ((l1.trans l13).trans l4), fun Γ4 O4 H4 ρ4 σ4 l4 S4 r4 h4 => ⟨Γ4, O4, ρ4, l13.trans l4, S4, r4, h4⟩⟩
  · have hi2 : i = ws.length := by omega
    refine .inl ⟨ok2 hi2, e.nx _ _ _ _ _ (l1.trans l') S' r' (pd _ _ ?_)⟩
    rw [← hi2]; exact p'
noncomputable def yc (js : List Nat) (ρ : WS) : WS := js.map fun j => (ρ[j]?).join
theorem qh {Γ : Gh} {ρ : WS} {σ : St} (r : relR K Γ ρ σ) (n : Nat) (js : List Nat) : relR K Γ (List.replicate n none ++ yc js ρ) (xU n js σ) := by
  refine Paired.appP ?_ ?_
  · induction n with
    | zero => exact .nil
    | succ n ih => exact .cons trivial ih
  · unfold yc
    induction js with
    | nil => exact .nil
    | cons j js ih =>
      refine .cons ?_ ih
      show vE K Γ (ρ[j]?.join) (σ[j]?.join)
      cases h : ρ[j]? with
      | none => exact trivial
      | some o =>
        cases o with
        | none => exact trivial
        | some w =>
          obtain ⟨v, hv, rv⟩ := r.get h
          rw [hv]
          exact rv
noncomputable def kH (G : TGW) (T : TTW) (E : TEW) (n : Nat) (zO : WS) (w : W) (ρ : WS) (O : OM) (k : Option W → OM → Prop) : Prop :=
  G w ρ O fun ρ1 O1 => (ρ1.length = n + zO.length ∧ ρ1.drop n = zO) ∧ T ρ1 O1 fun ok O2 => if ok = true then E ρ1 O2 fun y O3 => k (some y) O3 else k none O2
noncomputable def wLc (Wi : TIW) (n : Nat) (js : List Nat) (G : TGW) (T : TTW) (E : TEW) : TEW := fun ρ O R => Wi ρ O fun ws keep O1 => keep O1 ∧ ws.length ≤ 1000 ∧ ∃ F : W → Option PyData,
  (∀ w ∈ ws, ∀ us : WS, us.length = n → kH G T E n (yc js ρ) w (us ++ yc js ρ) O1 fun y O2 => O2 = O1 ∧ y = (F w).map .d) ∧ R (.d (.list (ws.filterMap F))) O1
theorem ja {n : Nat} {zO ρ : WS} (h1 : ρ.length = n + zO.length) (h2 : ρ.drop n = zO) : ∃ us : WS, us.length = n ∧ ρ = us ++ zO := ⟨ρ.take n, by rw [List.length_take]; omega, by rw [← h2, List.take_append_drop]⟩
theorem Qg {wi : TI} {Wi : TIW} {n : Nat} {js : List Nat} {g : TG} {G : TGW} {tt : TT} {T : TTW} {te : TE} {E : TEW} (hi : vf K wi Wi) (hg : RefG K g G) (ht : yi K tt T) (he : zj K te E) : zj K (tLc wi n js g tt te) (wLc Wi n js G T E) := by
  intro Γ O H ρ σ S r Q R hT k
  refine hi _ _ _ _ _ S r _ _ hT fun Γ1 O1 H1 J ws keep l1 S1 ok h1 => ?_
  obtain ⟨hk, hlen, F, hF, hR⟩ := h1
  intro D hD
  have hFD : Γ1.F D = none := S1.f.free hD
  have r1 := qh (r.mono l1) n js
  refine ⟨fun i m σ' H' => i ≤ ws.length ∧ m = ws.length - i ∧ ∃ Γ' ρ' vs, Same Γ1.Z Γ'.Z ∧ (∀ a rs, Γ1.G a = some rs → ∃ more, Γ'.G a = some (rs ++ more)) ∧ Γ'.F = upd Γ1.F D (.lst vs) ∧ Sim K Γ' O1 H' ∧ relR K Γ' ρ' σ' ∧
    ρ'.length = n + (yc js ρ).length ∧ ρ'.drop n = yc js ρ ∧ Reps K Γ'.Z ((ws.take i).filterMap F) vs, ⟨_, Nat.zero_le _, rfl, _, _, [], Same.refl _, fun a rs h => ⟨[], by rw [List.append_nil]; exact h⟩, rfl, S1.frameNew hD (.lst []), r1.setF, by simp, by simp, rfl⟩, ?_⟩
  rintro i m σ' H' ⟨hi, rfl, Γ', ρ', vs, z', g', f', S', r', n1, n2, rp⟩
  obtain ⟨ok1, ok2⟩ := ok i Γ' O1 H' z' g' S' hk
  have hvl : vs.length ≤ i := by
    rw [← Reps.length rp]
    exact Nat.le_trans (List.length_filterMap_le _ _) (by rw [List.length_take]; omega)
  by_cases hlt : i < ws.length
  · obtain ⟨go, y⟩ := ok1 _ (List.getElem?_eq_getElem hlt)
    refine .inr ⟨go, fun σ2 H2 => ∃ Γ2 ρ2 vs2, Same Γ1.Z Γ2.Z ∧ (∀ a rs, Γ1.G a = some rs → ∃ more, Γ2.G a = some (rs ++ more)) ∧ Γ2.F = upd Γ1.F D (.lst vs2) ∧ Sim K Γ2 O1 H2 ∧ relR K Γ2 ρ2 σ2 ∧
      ρ2.length = n + (yc js ρ).length ∧ ρ2.drop n = yc js ρ ∧ Reps K Γ2.Z ((ws.take (i + 1)).filterMap F) vs2, fun σ2 H2 h => ⟨ws.length - (i + 1), by omega, hlt, rfl, h⟩, fun x H2 hy => ?_⟩
    obtain ⟨Γ2, l2, S2, rx⟩ := y x H2 hy
    obtain ⟨us, hus, rfl⟩ := ja n1 n2
    have et : ws.take (i + 1) = ws.take i ++ [ws[i]] := (List.take_append_getElem hlt).symm
    refine hg _ _ _ _ _ _ _ S2 (r'.mono l2) rx _ _ (hF _ (List.getElem_mem hlt) us hus) fun Γ3 O3 H3 ρ3 σ3 l3 S3 r3 h3 => ?_
    obtain ⟨⟨m1, m2⟩, h3⟩ := h3
    refine ht _ _ _ _ _ S3 r3 _ _ h3 fun Γ4 O4 H4 b l4 S4 h4 => ?_
    have l24 := (l2.trans l3).trans l4
    have up : ∀ Γ5, Le Γ' Γ5 → Same Γ1.Z Γ5.Z ∧ (∀ a rs, Γ1.G a = some rs → ∃ more, Γ5.G a = some (rs ++ more)) := fun Γ5 l => ⟨z'.trans l.z, fun a rs h => by
      obtain ⟨m, e⟩ := g' a rs h
      obtain ⟨m2, e2⟩ := l.g a _ e
      exact ⟨m ++ m2, by rw [← List.append_assoc]; exact e2⟩⟩
    cases b with
    | true =>
      rw [if_pos rfl] at h4 ⊢
      refine he _ _ _ _ _ S4 (r3.mono l4) _ _ h4 fun Γ5 O5 H5 w5 v5 l5 S5 r5 h5 => ?_
      obtain ⟨rfl, h5⟩ := h5
      have l25 := l24.trans l5
      cases hFw : F ws[i] with
      | none => rw [hFw] at h5; cases h5
      | some d =>
        rw [hFw] at h5
        cases h5
        have f5 : Γ5.F = upd Γ1.F D (.lst vs) := by rw [l25.f, f']
        have fD : Γ5.F D = some (.lst vs) := by rw [f5, zh]
        refine ⟨vs, S5.f _ _ fD, qf (by omega), ?_⟩
        obtain ⟨u1, u2⟩ := up Γ5 l25
        refine ⟨⟨Γ5.Z, Γ5.G, upd Γ5.F D (.lst (vs ++ [v5]))⟩, ρ3, vs ++ [v5], u1, u2, ?_, S5.framePut fD _, ((r3.mono l4).mono l5).setF, m1, m2, ?_⟩
        · show upd Γ5.F D _ = _
          rw [f5, jH]
        · rw [et, List.filterMap_append]
          have : ([ws[i]] : List W).filterMap F = [d] := by simp [hFw]
          rw [this]
          exact Reps.snoc (Reps.same l25.z _ _ rp) r5
    | false =>
      rw [if_neg (by decide)] at h4 ⊢
      obtain ⟨rfl, h4⟩ := h4
      obtain ⟨u1, u2⟩ := up Γ4 l24
      refine ⟨Γ4, ρ3, vs, u1, u2, by rw [l24.f, f'], S4, r3.mono l4, m1, m2, ?_⟩
      cases hFw : F ws[i] with
      | some d => rw [hFw] at h4; cases h4
      | none =>
        rw [et, List.filterMap_append]
        have : ([ws[i]] : List W).filterMap F = [] := by simp [hFw]
        rw [this, List.append_nil]
        exact Reps.same l24.z _ _ rp
  · have hi2 : i = ws.length := by omega
    subst hi2
    refine .inl ⟨ok2 rfl, ?_⟩
    rw [List.take_length] at rp
    obtain ⟨q1, q2, q3⟩ := S'.unframe f' hFD rp
    exact k ⟨upd Γ'.Z D (.lst vs), Γ'.G, Γ1.F⟩ _ _ _ _ (l1.trans ⟨rfl, z'.trans q1, g'⟩) q2 q3 hR
end
end L2
namespace L2
open PySem PySem.Spec PyProof.Rows
section
variable {K : PySem.W.Frag}
noncomputable def vg {α : Type} (f : Str) (v : α) : List (Str × α) → List (Str × α)
  | [] => [(f, v)]
  | (g, x) :: r => if g = f then (g, v) :: r else (g, x) :: vg f v r
theorem kI {Γ : Gh} {f : Str} {w : W} {v : V} (r : relW K Γ w v) {fs : List (Str × W)} {vs : List (Str × V)} (h : yO K Γ fs vs) : yO K Γ (vg f w fs) (yg f v vs) := by
  unfold yO at h ⊢
  induction h with
  | nil => exact .cons ⟨rfl, r⟩ .nil
  | cons a b ih =>
    rename_i p q ps qs
    obtain ⟨k, x⟩ := p
    obtain ⟨k', y⟩ := q
    obtain ⟨e1, e2⟩ := a
    cases (show k = k' from e1)
    simp only [vg, yg]
    split
    · exact .cons ⟨rfl, r⟩ b
    · exact .cons ⟨rfl, e2⟩ ih
noncomputable def kJ : W → Option Key
  | .d (.int i) => some (.inl i)
  | .d (.str x) => some (.inr x)
  | _ => none
section
variable {κ α : Type} [DecidableEq κ]
noncomputable def JE (kvs : List (κ × α)) (k : κ) : Option α := (kvs.find? fun kv => decide (kv.1 = k)).map (·.2)
noncomputable def Jd (kvs : List (κ × α)) (k : κ) (v : α) : List (κ × α) := if (kvs.any fun kv => decide (kv.1 = k)) = true then kvs.map (fun kv => if kv.1 = k then (kv.1, v) else kv) else kvs ++ [(k, v)]
end
noncomputable def tyW (T : String) (O : OM) (w : W) : Prop := (T = "list" ∧ (zr O w).isSome = true) ∨ (T = "str" ∧ ∃ z, w = .d (.str z)) ∨ (T = "dict" ∧ ∃ a kvs, w = .own a ∧ O a = some (.dK kvs))
theorem XR {Γ : Gh} {O : OM} {H : Hp} {T : String} {w : W} {v : V} (S : Sim K Γ O H) (r : relW K Γ w v) (h : tyW T O w) : tyV K T v H := by
  rcases h with ⟨rfl, h⟩ | ⟨rfl, z, rfl⟩ | ⟨rfl, a, kvs, rfl, h⟩
  · obtain ⟨ws, e⟩ := Option.isSome_iff_exists.mp h
    obtain ⟨a, vs, rfl, q1, _⟩ := zJ S r e
    exact .inl ⟨rfl, vs, q1⟩
  · rw [show v = .str z from r]; rfl
  · cases (show v = .ref a from r)
    obtain ⟨_, vs, q1, _⟩ := S.o _ _ h
    exact .inr (.inr (.inl ⟨rfl, .inl ⟨vs, q1⟩⟩))
noncomputable def wBM (T : String) (rw : W → List W → OM → WK → Prop) (To : TEW) (Ta : TAW) : TEW := fun ρ O R => To ρ O fun x O1 => tyW T O1 x ∧ Ta ρ O1 fun xs O2 => rw x xs O2 R
theorem Qh {T : String} {r : V → List V → Hp → VK → Prop} {rw : W → List W → OM → WK → Prop} {to : TE} {To : TEW} {t : TA} {Ta : TAW} (hr : RefM K T r rw) (ho : zj K to To) (ha : yp K t Ta) : zj K (tBM K T r to t) (wBM T rw To Ta) := by
  intro Γ O H ρ σ S r0 Q R hT k
  refine ho _ _ _ _ _ S r0 _ _ hT fun Γ1 O1 H1 x v l1 S1 rx h1 => ?_
  refine ⟨XR S1 rx h1.1, ha _ _ _ _ _ S1 (r0.mono l1) _ _ h1.2 fun Γ2 O2 H2 ws vs l2 S2 rs h2 => ?_⟩
  exact hr _ _ _ _ _ _ _ S2 (rx.mono l2) rs _ _ h2 fun Γ3 O3 H3 w u l3 => k _ _ _ _ _ ((l1.trans l2).trans l3)
noncomputable def Qi (T : String) (rw : W → List W → OM → WK → Prop) (To : TEW) : TEW := fun ρ O R => To ρ O fun x O1 => tyW T O1 x ∧ rw x [] O1 R
theorem VR {T : String} {r : V → List V → Hp → VK → Prop} {rw : W → List W → OM → WK → Prop} {to : TE} {To : TEW} (hr : RefM K T r rw) (ho : zj K to To) : zj K (Yn K T r to) (Qi T rw To) := by
  intro Γ O H ρ σ S r0 Q R hT k
  refine ho _ _ _ _ _ S r0 _ _ hT fun Γ1 O1 H1 x v l1 S1 rx h1 => ?_
  exact ⟨XR S1 rx h1.1, hr _ _ _ _ _ _ _ S1 rx .nil _ _ h1.2 fun Γ3 O3 H3 w u l3 => k _ _ _ _ _ (l1.trans l3)⟩
end
end L2
namespace L2
open PySem PySem.Spec PyProof.Rows
section
variable {K : PySem.W.Frag}
noncomputable def XS (t : TA) : TE := qN t
theorem zT {X : Cx} {es : List Expr} {t : TA} {pos : Pos} (h : QA X es t) : PE X (.List es pos) (XS t) := Zo h.pa
noncomputable def XT (T : TAW) : TEW := fun ρ O R => T ρ O fun ws O1 => ws.length ≤ 1000 ∧ ∀ p, O1 p = none → R (.own p) (updO O1 p (.lst ws))
theorem YS {t : TA} {T : TAW} (h : yp K t T) : zj K (XS t) (XT T) := by
  intro Γ O H ρ σ S r0 Q R hT k
  refine h Γ O H ρ σ S r0 _ _ hT fun Γ1 O1 H1 ws vs l1 S1 rs h1 => ?_
  refine ⟨by rw [← Paired.length rs]; exact vH h1.1, fun p hp => ?_⟩
  obtain ⟨hO, S'⟩ := jS S1 rs hp
  exact k _ _ _ _ _ l1 S' xL (h1.2 p hO)
noncomputable def wCs (vs : List V) : TAW := fun _ O R => R (vs.map ofV) O
theorem Qj {vs : List V} (h : vs.all scV = true := by rfl) : yp K (tCs vs) (wCs vs) := fun Γ O H ρ σ S r Q R hT k => k _ _ _ _ _ (Le.refl _) S (v6 h) hT
noncomputable def tyD : PyData → Option String
  | .none => some "NoneType"
  | .bool _ => some "bool"
  | .int _ => some "int"
  | .str _ => some "str"
  | _ => none
noncomputable def isI : String → String → Option Bool
  | "int", "int" => some true
  | "int", "bool" => some false
  | "int", "str" => some false
  | "bool", "int" => some true
  | "bool", "bool" => some true
  | "bool", "str" => some false
  | "str", "int" => some false
  | "str", "bool" => some false
  | "str", "str" => some true
  | "NoneType", "int" => some false
  | "NoneType", "bool" => some false
  | "NoneType", "str" => some false
  | _, _ => none
theorem VS {a b : String} {c : Bool} (h : isI a b = some c) : PySem.W.kitOne K (.type a) (.type b) = some c := by
  unfold isI at h
  split at h <;> first | (cases h; rfl) | cases h
noncomputable def YT (K : PySem.W.Frag) : List V → Hp → VK → Prop := fun xs H Q => ∃ x n t b, xs = [x, .ty n] ∧ TyOf K H x t ∧ PySem.W.kitOne K t (.type n) = some b ∧ Q (.bl b) H
theorem qi {X : Cx} (h : X.K = K) : zP X (.builtin "isinstance") (YT K) := by subst h; exact jD
noncomputable def YU (n : String) (Ta : TEW) : TEW := fun ρ O R => Ta ρ O fun x O1 => ∃ d s b, x = .d d ∧ tyD d = some s ∧ isI s n = some b ∧ R (.d (.bool b)) O1
theorem VT {n : String} {ta : TE} {Ta : TEW} (h : zj K ta Ta) : zj K (tCB (YT K) (yZ ta (yZ (tC (.ty n)) xA))) (YU n Ta) := by
  intro Γ O H ρ σ S r Q R hT k
  refine h _ _ _ _ _ S r _ _ hT fun Γ1 O1 H1 x v l1 S1 rx h1 => ?_
  obtain ⟨d, s, b, rfl, e1, e2, h1⟩ := h1
  have ty : TyOf K H1 v (.type s) := by
    cases d <;> simp [tyD] at e1
    · subst e1; rw [show v = _ from rx]; exact .non
    · subst e1; rw [show v = _ from rx]; exact .bl _
    · subst e1; rw [show v = _ from rx]; exact .int _
    · subst e1; rw [show v = _ from rx]; exact .str _
  exact ⟨v, n, _, b, rfl, ty, VS e2, k _ _ _ _ _ l1 S1 ya h1⟩
noncomputable abbrev TOW := WS → OM → (Option Int → OM → Prop) → Prop
noncomputable def uN (K : PySem.W.Frag) (t : TO) (T : TOW) : Prop := ∀ Γ O H ρ σ, Sim K Γ O H → relR K Γ ρ σ → ∀ (Q : Option Int → Hp → Prop) (R : Option Int → OM → Prop), T ρ O R → (∀ Γ' O' H' b, Le Γ Γ' → Sim K Γ' O' H' → R b O' → Q b H') → t σ H Q
noncomputable def jU : TOW := fun _ O R => R none O
noncomputable def XU (T : TEW) : TOW := fun ρ O R => T ρ O fun x O1 => ∃ i, x = .d (.int i) ∧ R (some i) O1
theorem kK : uN K jM jU := fun Γ O H ρ σ S r Q R hT k => k _ _ _ _ (Le.refl _) S hT
theorem YV {t : TE} {T : TEW} (h : zj K t T) : uN K (Xy t) (XU T) := by
  intro Γ O H ρ σ S r Q R hT k
  refine h _ _ _ _ _ S r _ _ hT fun Γ1 O1 H1 x v l1 S1 rx h1 => ?_
  obtain ⟨i, rfl, h1⟩ := h1
  exact ⟨i, rx, k _ _ _ _ l1 S1 h1⟩
noncomputable def vh {α : Type} (xs : List α) (lo hi : Option Int) : List α := (xs.drop (HT.sIx xs.length 0 lo)).take (HT.sIx xs.length xs.length hi - HT.sIx xs.length 0 lo)
theorem YW {Z : Hp} {ds : List PyData} {vs : List V} (h : Reps K Z ds vs) (lo hi : Option Int) : Reps K Z (vh ds lo hi) (uI vs lo hi) := by
  have hp : relWs K ⟨Z, fun _ => none, fun _ => none⟩ (ds.map .d) vs := zF h
  have hl := Reps.length h
  have := Paired.takeP (Paired.dropP hp (HT.sIx vs.length 0 lo)) (HT.sIx vs.length vs.length hi - HT.sIx vs.length 0 lo)
  rw [← List.map_drop, ← List.map_take] at this
  unfold vh uI
  rw [hl]
  exact zq this
noncomputable def Qk (Te : TEW) (Tl Th : TOW) : TEW := fun ρ O R => Te ρ O fun x O1 => Tl ρ O1 fun l O2 => Th ρ O2 fun u O3 => ∃ ws ds, zr O3 x = some ws ∧ zU ws = some ds ∧ R (.d (.list (vh ds l u))) O3
theorem VU {te : TE} {tl th : TO} {Te : TEW} {Tl Th : TOW} (he : zj K te Te) (hl : uN K tl Tl) (hh : uN K th Th) : zj K (tSl (Ym K) te tl th) (Qk Te Tl Th) := by
  intro Γ O H ρ σ S r Q R hT k
  refine he _ _ _ _ _ S r _ _ hT fun Γ1 O1 H1 x v l1 S1 rx h1 => ?_
  refine hl _ _ _ _ _ S1 (r.mono l1) _ _ h1 fun Γ2 O2 H2 l l2 S2 h2 => ?_
  refine hh _ _ _ _ _ S2 (r.mono (l1.trans l2)) _ _ h2 fun Γ3 O3 H3 u l3 S3 h3 => ?_
  obtain ⟨ws, ds, e1, e2, h3⟩ := h3
  obtain ⟨a, vs, rfl, q1, q2⟩ := zJ S3 ((rx.mono l2).mono l3) e1
  rw [z9 e2] at q2
  refine ⟨a, vs, rfl, q1, fun p hp => ?_⟩
  obtain ⟨Γ', l', S', r'⟩ := ve S3 (YW (zq q2) l u) hp
  exact k _ _ _ _ _ (((l1.trans l2).trans l3).trans l') S' r' h3
theorem v7 {Z : Hp} : ∀ {ds es : List PyData} {vs us : List V}, Reps K Z ds vs → Reps K Z es us → Reps K Z (ds ++ es) (vs ++ us)
  | [], _, _, _, h, g => by rw [show _ = [] from h]; exact g
  | d :: ds, _, _, _, h, g => by
    obtain ⟨x, r, rfl, h1, h2⟩ := h
    exact ⟨x, _, rfl, h1, v7 h2 g⟩
noncomputable def XV : R2W := fun x y O R => ∃ i j, x = .d (.str i) ∧ y = .d (.str j) ∧ i.length + j.length ≤ sizeLine ∧ R (.d (.str (i ++ j))) O
theorem Ql : RefR K (fun x y H Q => ∃ i j, x = .str i ∧ y = .str j ∧ i.length + j.length ≤ sizeLine ∧ Q (.str (i ++ j)) H) XV := by
  rintro Γ O H x y v u S rx ry Q R ⟨i, j, rfl, rfl, hl, h⟩ k
  exact ⟨i, j, rx, ry, hl, k _ _ _ _ _ (Le.refl _) S y9 h⟩
end
end L2
namespace L2
open PySem PySem.Spec PyProof.Rows
section
variable {K : PySem.W.Frag}
section
variable {X : Cx} {N : List Str} {n : Nat} {js : List Nat} {scope : Scope} {cl : List (Str × Addr)} {elt tg iter : Expr} {ifs : List Expr} {pos : Pos} {wi : TI} {g : TG} {tt : TT} {te : TE}
end
end
end L2
namespace L2
open PySem PySem.Spec PyProof.Rows
section
variable {X : Cx} {K : PySem.W.Frag}
theorem xc {e : Expr} {ta : TE} {f : Str} {pos : Pos} (hK : X.K = K) (he : PE X e ta) (hb : attributeBase e f X.env (eval e X.env) = eval e X.env) : PE X (.Attribute e f pos) (Yg K ta f) := by
  subst hK; exact UI he hb
theorem uO {o value : Expr} {ta tv : TE} {f : Str} {pos pos' : Pos} (hK : X.K = K) (ha : PE X o ta) (hv : PE X value tv) (hs : swapsWith value (some (.Attribute o f pos')) pos.line X.env = pure false) : PS X (.Assign [.Attribute o f pos'] value pos) (Yh K ta tv f) := by
  subst hK; exact UJ ha hv hs
theorem ut (hK : X.K = K) : IxR X (Yl K) := by subst hK; exact UM
theorem v8 {tg l : Expr} {tl : TE} (hK : X.K = K) (hl : PE X l tl) : PI X tg l (kh K tl) := by subst hK; exact Ve hl
theorem VV {tg l : Expr} {tl : TE} (hK : X.K = K) (hl : PE X l tl) : PI X tg l (Z9 K tl) := by subst hK; exact UC hl
theorem YX {es : List Expr} {k : Nat} {tp : Pos} {l : Expr} {ta : TA} {p pos : Pos} (hK : X.K = K) (hg : Gl X "enumerate") (hm : X.mg "enumerate" = none) (ha : PA X [l] ta) (hs : starEach [l] X.env = [(false, eval l X.env)] := by rfl) :
    PI X (.Tuple es k tp) (.Call (.Name "enumerate" p) [l] [] pos) (kA K ta) := by subst hK; exact Vw hg hm ha hs
theorem uP {es : List Expr} {k : Nat} {t : TGs} {n : Nat} {pos : Pos} (hK : X.K = K) (hc : X.calm = true) (h : PGs X es t)
    (hn : (assignEach es X.env).length = n := by rfl) (hst : (assignEach es X.env).findIdx? (·.1) = none := by rfl) : PG X (.Tuple es k pos) (Z8 K n t) := by subst hK; exact UB hc h hn hst
section
variable {T : String} {name : Str} {id : String} {r : V → List V → Hp → VK → Prop} {o e : Expr} {es : List Expr} {to : TE} {t : TA} {apos cpos : Pos}
theorem VW (hK : X.K = K) (pa : PlainAttrs T) (slot : Slot T name id) (hty : typeOf (.builtin id) = pure (.type "method_descriptor")) (hm : MtR X id r) (ho : PE X o to)
    (hbase : attributeBase o name X.env (eval o X.env) = eval o X.env := by rfl) (hline : (apos.endLine == cpos.line) = true := by rfl) : PE X (.Call (.Attribute o name apos) [] [] cpos) (Yn K T r to) := by subst hK; exact UN pa slot hty hm ho hbase hline
theorem zW (hK : X.K = K) (pa : PlainAttrs T) (slot : Slot T name id) (hty : typeOf (.builtin id) = pure (.type "method_descriptor")) (hm : MtR X id r) (ho : PE X o to) (ha : PA X (e :: es) t)
    (hbase : attributeBase o name X.env (eval o X.env) = eval o X.env := by rfl)
    (hfew : ((backTo cpos (starEach (e :: es) X.env)).all (fun x => !x.1) && (backToKw cpos (keywordEach [] X.env)).all (fun x => x.1.isSome) && decide ((e :: es).length + ([] : List Keyword).length + (if ([] : List Keyword).isEmpty then 0 else 1) < 30)) = true := by rfl)
    (hline : (apos.endLine == cpos.line) = true := by rfl) (hs : starEach (e :: es) X.env = (false, eval e X.env) :: starEach es X.env := by rfl) (hplain : (backTo cpos (starEach es X.env)).any (·.1) = false := by rfl) :
    PE X (.Call (.Attribute o name apos) (e :: es) [] cpos) (tBM K T r to t) := by subst hK; exact QY pa slot hty hm ho ha hbase hfew hline hs hplain
end
noncomputable def XW (K : PySem.W.Frag) : List V → Hp → VK → Prop := fun xs H Q => ∃ p ys, xs = [.ref p] ∧ (SqL K H p ys ∨ SqT K H p ys) ∧ Q (.int ys.length) H
theorem uu (hK : X.K = K) : zP X (.builtin "len") (XW K) := by subst hK; exact qR
theorem Qm : RefC K (XW K) YG := Jb
noncomputable def XX (K : PySem.W.Frag) : List V → Hp → VK → Prop := fun xs H Q => ∃ p ys, xs = [.ref p] ∧ ((SqL K H p ys ∧ ∀ l, H l = none → Q (.ref l) (upd H l (.tup ys))) ∨ (SqT K H p ys ∧ Q (.ref p) H))
theorem ZC (hK : X.K = K) : zP X (.type "tuple") (XX K) := by subst hK; exact qt
theorem Qn : RefC K (XX K) q5 := VL
noncomputable def XY (K : PySem.W.Frag) (ta : TE) : TT := fun σ H Q => ta σ H fun x H' => ∃ k, uH K x H' k ∧ Q k H'
theorem vi {a : Expr} {ta : TE} (hK : X.K = K) (ha : PE X a ta) (he : ∀ whole, isTrue a X.env whole = (do let v ← whole; standAt a.pos; holding [v] (truthy v))) : PT X a (XY K ta) := by
  subst hK; exact Yd ha he
theorem YY {t : TE} {T : TEW} (h : zj K t T) : yi K (XY K t) (YA T) := VG h
theorem Qo (hK : X.K = K) (hu : X.A.units + 64 < cLine) : OpR X (compareOp .Eq) (Yr K) := by subst hK; exact US hu
theorem uv (hK : X.K = K) (hu : X.A.units + 64 < cLine) : OpR X (compareOp .NotEq) (Ys K) := by subst hK; exact UT hu
theorem VX : yi K UR (fun _ O R => R true O) := fun Γ O H ρ σ S r Q R hT k => k _ _ _ _ (Le.refl _) S hT
end
section
variable {K : PySem.W.Frag}
end
end L2
namespace L2
open PySem PySem.Spec PyProof.Rows
section
variable {K : PySem.W.Frag}
theorem ZD {s : SpW} {t : TA} {T : TAW} (h : yp K t T) : zj K (qB (zc K s) [] E0 t) (qF s [] T) := YD h
theorem zC {T U : TSW} {D : EndsW} {ρ : WS} {O : OM} (J : WS → OM → Prop) (ht : ∀ R : WS → OM → Prop, (∀ ρ' O', J ρ' O' → R ρ' O') → T { D with nx := R } ρ O) (hu : ∀ ρ' O', J ρ' O' → U D ρ' O') : yU T U D ρ O := ht (U D) hu
theorem yC.by {ws : List W} {keep : OM → Prop} {G : TGW} {TB : TSW} {D : EndsW} {ρ : WS} {O : OM} (Pv : Nat → WS → OM → Prop) (h0 : Pv 0 ρ O) (hk : ∀ i ρ O, Pv i ρ O → keep O)
    (hs : ∀ i w ρ O, ws[i]? = some w → Pv i ρ O → ∀ R : WS → OM → Prop, (∀ ρ' O', Pv (i + 1) ρ' O' → R ρ' O') → G w ρ O fun ρ' O' => TB { D with nx := R, ct := R, bk := D.nx } ρ' O') (hd : ∀ ρ O, Pv ws.length ρ O → D.nx ρ O) : yC ws keep G TB D ρ O :=
  ⟨Pv, h0, hk, fun i w ρ O e p => hs i w ρ O e p _ fun _ _ z => z, hd⟩
theorem yC.rng {n : Nat} {f : Nat → Int} {G : TGW} {TB : TSW} {D : EndsW} {ρ : WS} {O : OM} (Pv : Nat → WS → OM → Prop) (h0 : Pv 0 ρ O)
    (hs : ∀ i ρ O, i < n → Pv i ρ O → ∀ R : WS → OM → Prop, (∀ ρ' O', Pv (i + 1) ρ' O' → R ρ' O') → G (.d (.int (f i))) ρ O fun ρ' O' => TB { D with nx := R, ct := R, bk := D.nx } ρ' O') (hd : ∀ ρ O, Pv n ρ O → D.nx ρ O) : yC ((List.range n).map fun i => .d (.int (f i))) (fun _ => True) G TB D ρ O :=
  yC.by Pv h0 (fun _ _ _ _ => trivial) (fun i w ρ O e p R hR => by
    rw [List.getElem?_map] at e
    cases hr : (List.range n)[i]? with
    | none => rw [hr] at e; cases e
    | some j =>
      rw [hr] at e
      cases e
      obtain ⟨hi, hj⟩ := List.getElem?_eq_some_iff.mp hr
      simp at hi hj
      subst hj
      exact hs i ρ O hi p R hR) (fun ρ O p => hd ρ O (by simpa using p))
end
noncomputable abbrev PF := Nat → Nat → Cel
noncomputable def genG (h w : Nat) (f : PF) : List (List PyData) := (List.range h).map fun i => (List.range w).map fun j => vW (f i j)
noncomputable def setF (f : PF) (i j : Nat) (c : Cel) : PF := fun a b => if a = i ∧ b = j then c else f a b
end L2
namespace L2
open PySem PySem.Spec PyProof.Rows
theorem xM {X : Cx} : OpR X (binaryOp .Mult) (rI IntMulOk fun i j => .int (i * j)) := opI fun _ _ _ _ _ _ _ hc q => mul_int q hc
theorem mulL {a b : Int} (h1 : -1000000000000 ≤ a) (h2 : a ≤ 1000000000000) : IntMulOk a b := (Vu h1 h2).ok
theorem mulR {a b : Int} (h1 : -1000000000000 ≤ b) (h2 : b ≤ 1000000000000) : IntMulOk a b := (Yt h1 h2).ok
noncomputable def Bt (m : Nat) (c : Int) : Prop := c.natAbs < 2 ^ m
theorem Bt.bits {m : Nat} {c : Int} (h : Bt m c) : Builtin.Int.intBits c ≤ m := by
  unfold Builtin.Int.intBits
  by_cases hc : c = 0
  · simp [hc]
  · have hn : c.natAbs ≠ 0 := by omega
    simp only [beq_iff_eq, hc, if_false]
    exact (Nat.log2_lt hn).mpr h
theorem Bt.mul {m : Nat} {a b : Int} (ha : Bt m a) (hb : Bt m b) (hm : m ≤ 67108864) : IntMulOk a b := by
  have h1 := ha.bits
  have h2 := hb.bits
  have hc : Builtin.Int.intTooBig ((Builtin.Int.intBits a : Nat) + (Builtin.Int.intBits b : Nat) : Int) = false := by
    unfold Builtin.Int.intTooBig bitsLine
    simp only [gt_iff_lt, decide_eq_false_iff_not, Int.not_lt]
    have : (2 : Nat) ^ 27 = 134217728 := by decide
    omega
  unfold IntMulOk
  rw [hc]
  simp
theorem Bt.add {m : Nat} {a b : Int} (ha : Bt m a) (hb : Bt m b) : Bt (m + 1) (a + b) := by
  unfold Bt at *
  rw [Nat.pow_succ]
  omega
theorem Bt.mono {m n : Nat} {a : Int} (ha : Bt m a) (h : m ≤ n) : Bt n a := Nat.lt_of_lt_of_le ha (Nat.pow_le_pow_right (by decide) h)
theorem Bt.small {a : Int} (h1 : -1000000000000 ≤ a) (h2 : a ≤ 1000000000000) : Bt 40 a := by
  unfold Bt
  have : (2 : Nat) ^ 40 = 1099511627776 := by decide
  omega
end L2
namespace L2
open PySem PySem.Spec PyProof.Rows
section
variable {K : PySem.W.Frag}
theorem RefR.weak {r : R2} {rw rw' : R2W} (h : RefR K r rw) (imp : ∀ x y O R, rw' x y O R → rw x y O R) : RefR K r rw' := fun Γ O H x y v u S rx ry Q R hT k => h Γ O H x y v u S rx ry Q R (imp _ _ _ _ hT) k
theorem RefC.weak {r : List V → Hp → VK → Prop} {rw rw' : List W → OM → WK → Prop} (h : RefC K r rw) (imp : ∀ x O R, rw' x O R → rw x O R) : RefC K r rw' := fun Γ O H xs vs S rs Q R hT k => h Γ O H xs vs S rs Q R (imp _ _ _ hT) k
noncomputable def kL (i : Nat) : TEW := fun ρ O R => match ρ[i]? with
  | some (some w) => R w O
  | _ => False
theorem Qp {i : Nat} : zj K (kd i) (kL i) := fun Γ O H ρ σ S r Q R hT k => Vz Γ O H ρ σ S r Q R (by
  unfold kL at hT
  split at hT
  · rename_i w e; exact ⟨w, e, hT⟩
  · exact hT.elim) k
noncomputable def vI0 (g : Int → Int → V) : R2W := fun x y O R => match x, y with
  | .d (.int i), .d (.int j) => R (ofV (g i j)) O
  | _, _ => False
noncomputable def vI (C : Int → Int → Prop) (g : Int → Int → V) : R2W := fun x y O R => match x, y with
  | .d (.int i), .d (.int j) => C i j ∧ R (ofV (g i j)) O
  | _, _ => False
theorem Je {g : Int → Int → V} (hg : ∀ i j, scV (g i j) = true := by intro _ _; rfl) : RefR K (rI0 g) (vI0 g) := (Jy hg).weak fun x y O R h => by
  unfold vI0 at h
  split at h
  · exact ⟨_, _, rfl, rfl, h⟩
  · exact h.elim
theorem JF {C : Int → Int → Prop} {g : Int → Int → V} (hg : ∀ i j, scV (g i j) = true := by intro _ _; rfl) : RefR K (rI C g) (vI C g) := (r_I hg).weak fun x y O R h => by
  unfold vI at h
  split at h
  · exact ⟨_, _, rfl, rfl, h⟩
  · exact h.elim
noncomputable def vU (g : Int → V) : W → OM → WK → Prop := fun x O R => match x with
  | .d (.int i) => R (ofV (g i)) O
  | _ => False
noncomputable def vEq : R2W := fun x y O R => match x, y with
  | .d (.int i), .d (.int j) => R (.d (.bool (decide (i = j)))) O
  | .d a, .d b => scD a = true ∧ scD b = true ∧ vT (vOf a) (vOf b) = true ∧ R (.d (.bool (decide (vOf a = vOf b)))) O
  | _, _ => False
noncomputable def vNe : R2W := fun x y O R => match x, y with
  | .d (.int i), .d (.int j) => R (.d (.bool (!decide (i = j)))) O
  | .d a, .d b => scD a = true ∧ scD b = true ∧ vT (vOf a) (vOf b) = true ∧ R (.d (.bool (!decide (vOf a = vOf b)))) O
  | _, _ => False
theorem Jf : RefR K rEq vEq := Jz.weak fun x y O R h => by
  unfold vEq at h
  split at h
  · rename_i i j
    have e : decide (vOf (.int i) = vOf (.int j)) = decide (i = j) := by simp [vOf]
    exact ⟨.int i, .int j, rfl, rfl, rfl, rfl, rfl, by rw [e]; exact h⟩
  · exact ⟨_, _, rfl, rfl, h⟩
  · exact h.elim
theorem Jg : RefR K rNe vNe := JA.weak fun x y O R h => by
  unfold vNe at h
  split at h
  · rename_i i j
    have e : decide (vOf (.int i) = vOf (.int j)) = decide (i = j) := by simp [vOf]
    exact ⟨.int i, .int j, rfl, rfl, rfl, rfl, rfl, by rw [e]; exact h⟩
  · exact ⟨_, _, rfl, rfl, h⟩
  · exact h.elim
noncomputable def kM : R2W := fun x y O R => match y with
  | .d .none => R (.d (.bool (vG x))) O
  | _ => False
noncomputable def qG : R2W := fun x y O R => match y with
  | .d .none => R (.d (.bool (!vG x))) O
  | _ => False
theorem Qq : RefR K (fun x y H Q => y = .non ∧ Q (.bl (decide (x = .non))) H) kM := Q7.weak fun x y O R h => by
  unfold kM at h
  split at h
  · exact ⟨rfl, h⟩
  · exact h.elim
theorem VY : RefR K (fun x y H Q => y = .non ∧ Q (.bl (!decide (x = .non))) H) qG := UZ.weak fun x y O R h => by
  unfold qG at h
  split at h
  · exact ⟨rfl, h⟩
  · exact h.elim
noncomputable def YZ : R2W := fun x y O R => match y with
  | .d (.int i) => ∃ ws, zr O x = some ws ∧ ∃ w, atI ws i = some w ∧ R w O
  | _ => False
theorem Qr : RefR K (ku K) YZ := Q8.weak fun x y O R h => by
  unfold YZ at h
  split at h
  · obtain ⟨ws, e, w, e2, h⟩ := h
    exact ⟨ws, _, w, rfl, e, e2, h⟩
  · exact h.elim
noncomputable def qH (T : TEW) : TTW := fun ρ O R => T ρ O fun x O1 => match x with
  | .d (.bool k) => R k O1
  | _ => False
theorem jV {t : TE} {T : TEW} (h : zj K t T) : yi K (Xw t) (qH T) := by
  intro Γ O H ρ σ S r0 Q R hT k
  refine h Γ O H ρ σ S r0 _ _ hT fun Γ1 O1 H1 x v l1 S1 rx h1 => ?_
  split at h1
  · exact ⟨_, rx, k _ _ _ _ l1 S1 h1⟩
  · exact h1.elim
theorem Jh {t : TE} {T : TEW} (h : zj K t T) : yi K (tB t) (qH T) := jV h
noncomputable def jb (r r' : R2W) (Ta Tb Tc : TEW) : TEW := fun ρ O R => Ta ρ O fun x O1 => Tb ρ O1 fun y O2 => r x y O2 fun z O3 => match z with
  | .d (.bool k) => if k = true then Tc ρ O3 fun w O4 => r' y w O4 R else R (.d (.bool false)) O3
  | _ => False
theorem Y0 {r r' : R2} {rw rw' : R2W} {ta tb tc : TE} {Ta Tb Tc : TEW} (hr : RefR K r rw) (hr' : RefR K r' rw') (ha : zj K ta Ta) (hb : zj K tb Tb) (hc : zj K tc Tc) : zj K (Zh r r' ta tb tc) (jb rw rw' Ta Tb Tc) := by
  intro Γ O H ρ σ S r0 Q R h k
  refine ha Γ O H ρ σ S r0 _ _ h fun Γ1 O1 H1 x v l1 S1 rx h1 => ?_
  refine hb Γ1 O1 H1 ρ σ S1 (r0.mono l1) _ _ h1 fun Γ2 O2 H2 y u l2 S2 ry h2 => ?_
  refine hr Γ2 O2 H2 x y v u S2 (rx.mono l2) ry _ _ h2 fun Γ3 O3 H3 w z l3 S3 rz h3 => ?_
  split at h3
  · rename_i c
    refine ⟨c, rz, ?_⟩
    have l13 := (l1.trans l2).trans l3
    cases c with
    | true =>
      rw [if_pos rfl] at h3 ⊢
      refine hc _ _ _ _ _ S3 (r0.mono l13) _ _ h3 fun Γ4 O4 H4 q z4 l4 S4 r4 h4 => ?_
      exact hr' _ _ _ _ _ _ _ S4 (ry.mono (l3.trans l4)) r4 _ _ h4 fun Γ5 O5 H5 w5 z5 l5 S5 r5 h5 => k _ _ _ _ _ ((l13.trans l4).trans l5) S5 r5 h5
    | false => rw [if_neg (by decide)] at h3 ⊢; exact k _ _ _ _ _ l13 S3 ya h3
  · exact h3.elim
noncomputable def Y1 (K : PySem.W.Frag) (Ta : TEW) (f : Str) : TEW := fun ρ O R => Ta ρ O fun x O1 => match x with
  | .own a => ∃ C dx fs, O1 a = some (.ins C dx fs) ∧ Cls K C ∧ NoAttr K C f ∧ ∃ w, fs.lookup f = some w ∧ R w O1
  | _ => False
theorem Qs {ta : TE} {Ta : TEW} {f : Str} (ha : zj K ta Ta) : zj K (Yg K ta f) (Y1 K Ta f) := by
  intro Γ O H ρ σ S r0 Q R hT k
  refine ha Γ O H ρ σ S r0 _ _ hT fun Γ1 O1 H1 x v l1 S1 rx h1 => ?_
  split at h1
  · obtain ⟨C, dx, fs, ho, c, na, w, e, h1⟩ := h1
    obtain ⟨_, vs, q1, q2⟩ := S1.o _ _ ho
    obtain ⟨u, e', ru⟩ := (uq q2).2 w e
    exact ⟨_, C, dx, vs, u, rx, q1, c, na, e', k _ _ _ _ _ l1 S1 ru h1⟩
  · exact h1.elim
noncomputable def kN (K : PySem.W.Frag) (Ta Tv : TEW) (f : Str) : TSW := fun D ρ O => Tv ρ O fun y O1 => Ta ρ O1 fun x O2 => match x with
  | .own a => ∃ C dx fs, O2 a = some (.ins C dx fs) ∧ Cls K C ∧ NoAttr K C f ∧ fs.length < 1000 ∧ D.nx ρ (updO O2 a (.ins C dx (vg f y fs)))
  | _ => False
theorem VZ {ta tv : TE} {Ta Tv : TEW} {f : Str} (ha : zj K ta Ta) (hv : zj K tv Tv) : RefS K (Yh K ta tv f) (kN K Ta Tv f) := by
  intro Γ O H ρ σ D DW S r0 hT e
  refine hv Γ O H ρ σ S r0 _ _ hT fun Γ1 O1 H1 y u l1 S1 ry h1 => ?_
  refine ha _ _ _ _ _ S1 (r0.mono l1) _ _ h1 fun Γ2 O2 H2 x v l2 S2 rx h2 => ?_
  split at h2
  · obtain ⟨C, dx, fs, ho, c, na, hl, h2⟩ := h2
    obtain ⟨_, vs, q1, q2⟩ := S2.o _ _ ho
    refine ⟨_, C, dx, vs, rx, q1, c, na, by rw [← Paired.length q2]; exact hl, ?_⟩
    exact e.nx _ _ _ _ _ (l1.trans l2) (S2.put (oo := .ins C dx _) ho (by intro _ h; cases h) (by intro _ h; cases h) ⟨_, zh, kI (ry.mono l2) q2⟩) (r0.mono (l1.trans l2)) h2
  · exact h2.elim
noncomputable def ZE (Td Ty : TEW) : TEW := fun ρ O R => Td ρ O fun x O1 => Ty ρ O1 fun y O2 => match x, kJ y with
  | .own a, some k => ∃ kvs, O2 a = some (.dK kvs) ∧ ∃ w, JE kvs k = some w ∧ R w O2
  | _, _ => False
noncomputable def ZF (Td Ty Tv : TEW) : TSW := fun D ρ O => Tv ρ O fun w O1 => Td ρ O1 fun x O2 => Ty ρ O2 fun y O3 => match x, kJ y with
  | .own a, some k => ∃ kvs, O3 a = some (.dK kvs) ∧ kvs.length < 1000 ∧ D.nx ρ (updO O3 a (.dK (Jd kvs k w)))
  | _, _ => False
noncomputable def vI2 (g : Int → Int → Int) : List W → OM → WK → Prop := fun xs O R => match xs with
  | [.d (.int i), .d (.int j)] => R (.d (.int (g i j))) O
  | _ => False
end
end L2
namespace L2
open PySem PySem.Spec PyProof.Rows
section
variable {X : Cx}
theorem vj : ∀ {zs : List Str} {us : List Value}, Vals (zs.map V.str) us → StrsAre us zs
  | [], _, .nil => .nil
  | z :: zs, _, .cons r t => by
    obtain ⟨k, rfl⟩ := r
    exact .cons z k (vj t)
noncomputable def kO (K : PySem.W.Frag) : V → List V → Hp → VK → Prop := fun x xs H Q => ∃ sep a zs, x = .str sep ∧ xs = [.ref a] ∧ SqL K H a (zs.map .str) ∧ sep.length ≤ 16 ∧ (zs.map (·.length)).sum + zs.length ≤ 1048576 ∧ Q (.str (Txt.join sep zs)) H
theorem V0 : MtR X "str.join" (kO X.K) := by
  intro pins s σ H x xs v us Q I rx r h
  obtain ⟨sep, a, zs, rfl, rfl, hq, hs, hw, q⟩ := h
  obtain ⟨u, rfl, ru⟩ := r.one
  cases ru
  obtain ⟨t, rfl⟩ := rx
  obtain ⟨its, rv, p, hz⟩ := I.list hq
  exact join_listW p.isList (vj rv) hs hw fun t' k => ⟨.str _, H, I.tok _, ⟨_, rfl⟩, q⟩
theorem qj : ∀ {bs : List Bool} {us : List Value} {i : Nat} {v : Value}, Vals (bs.map V.bl) us → us[i]? = some v → ∃ b, bs[i]? = some b ∧ v = .bool b
  | [], _, _, _, .nil, e => by simp at e
  | b :: bs, _, 0, v, .cons r t, e => ⟨b, rfl, by simp at e; subst e; exact r⟩
  | b :: bs, _, i + 1, v, .cons r t, e => by
    simp only [List.getElem?_cons_succ] at e ⊢
    exact qj t e
theorem kP (bs : List Bool) : ((List.range bs.length).any fun i => (bs[i]?).getD false) = bs.any id := by
  induction bs with
  | nil => rfl
  | cons b bs ih => simp only [List.length_cons, List.range_succ_eq_map, List.any_cons, List.any_map]; rw [← ih]; rfl
noncomputable def Y2 (K : PySem.W.Frag) : List V → Hp → VK → Prop := fun xs H Q => ∃ a, ∃ bs : List Bool, xs = [.ref a] ∧ SqL K H a (bs.map .bl) ∧ Q (.bl (bs.any id)) H
theorem ZG (hc : X.calm = true) : zP X (.builtin "any") (Y2 X.K) := by
  intro pins s σ H xs us Q I r h
  obtain ⟨a, bs, rfl, hq, q⟩ := h
  obtain ⟨u, rfl, ru⟩ := r.one
  cases ru
  obtain ⟨its, rv, p, hz⟩ := I.list hq
  have hl := p.isList
  have hlt : a < s.heap.objs.size := by obtain ⟨_, e, _⟩ := hl; exact Heap.lt_size e
  have len := rv.length
  rw [List.length_map] at len
  refine call_any_walk (wpAny_pyIter_list hl ?_)
  refine ⟨_, _, _, _, _, _, fun i => (bs[i]?).getD false, rfl, Walks.list (A := X.A.in1) (I.ok.hd hc) _ a (Nat.ne_of_lt hlt) _, ⟨⟨_, Heap.get?_push_size _ rfl, rfl, rfl⟩, hl.push _⟩, fun i v s1 Q1 E1 hP hQ => ?_, fun h1 tk hk => ?_⟩
  · obtain ⟨b, e, rfl⟩ := qj rv (by simpa using hP)
    simp only [e, Option.getD_some] at hQ
    exact wpAny_truthy_bool hQ
  · have e := kP bs
    rw [len] at e
    rw [show ((List.range its.toArray.size).any fun i => (bs[i]?).getD false) = bs.any id by simpa using e]
    exact ⟨.bl _, H, I.kept (t' := tk) (LSm.kept_iter hk), rfl, q⟩
theorem ZH : zP X (.type "int") (fun xs H Q => ∃ z n, xs = [.str z] ∧ intText? z = some n ∧ z.length ≤ 640 ∧ Q (.int n) H) := by
  intro pins s σ H xs us Q I r h
  obtain ⟨z, n, rfl, hn, hl, q⟩ := h
  obtain ⟨u, rfl, t, rfl⟩ := xv r
  exact PySem.W.KIN.call_text hn hl ⟨.int n, H, I.tok _, ⟨_, rfl⟩, q⟩
noncomputable def ZI : V → List V → Hp → VK → Prop := fun x xs H Q => ∃ z y, x = .str z ∧ xs = [.str y] ∧ 0 ≤ Txt.find z y ∧ Q (.int (Txt.find z y)) H
theorem Y3 (hc : X.calm = true) : MtR X "str.index" ZI := by
  intro pins s σ H x xs v us Q I rx r h
  obtain ⟨z, y, rfl, rfl, h0, q⟩ := h
  obtain ⟨u, rfl, t, rfl⟩ := xv r
  obtain ⟨t', rfl⟩ := rx
  exact index_or (I.ok.hd hc) (fun e => by omega) fun _ _ => ⟨.int _, H, I.tok _, ⟨_, rfl⟩, q⟩
noncomputable def Its (x : Str) : It := ⟨fun i _ => i < x.cps.size, fun i H v H' => H' = H ∧ ∃ c, x.cps[i]? = some c ∧ v = .str ⟨#[c]⟩, fun i _ => x.cps.size ≤ i⟩
theorem kQ {P : Program} {w : World} {K : PySem.W.Frag} {tg : Expr} (x : Str) (t : Tok) (it : Addr) : Turn P w K tg (Its x) [it] it (fun i h => h.IsStrIter it "str_ascii_iterator" x t i) where
  mem := List.mem_singleton.mpr rfl
  obj := fun i h st b hb => by
    cases List.mem_singleton.mp hb
    obtain ⟨o, e, c, d⟩ := st
    exact ⟨o, e, fun v z => by rw [d] at z; cases z⟩
  keep := fun i h h' st k => let ⟨o, ho, r⟩ := st; ⟨o, k it (List.mem_singleton.mpr rfl) o ho, r⟩
  item := by
    intro X hP hw hK hc i pins s σ H E I hf st hg
    subst hP hw hK
    obtain ⟨f0, f1, f2, f3, f4, f5⟩ := hf it (List.mem_singleton.mpr rfl)
    have hi : i < x.cps.size := hg
    refine wpAny_pyNext_ascii_item st (c := x.cps[i]) (by simp [hi]) fun h1 st1 sb => ?_
    have I1 : Inv X pins σ H { s with heap := h1, toks := s.toks + 1 } := I.turned (t' := s.toks + 1) (fun b o hb e => (sb.2 b hb).trans e) f0 f1 f3 f4 f5
    obtain ⟨o, e, c, d⟩ := id st1
    exact ⟨_, rfl, qz (s := { s with heap := h1, toks := s.toks + 1 }) e c d (by decide) ⟨.str ⟨#[x.cps[i]]⟩, H, I1, ⟨_, rfl⟩, ⟨rfl, _, by simp [hi], rfl⟩, st1, fun b hb => (hf b hb).1⟩⟩
  done := by
    intro X hP hw hK hc i pins s σ H E I hf st hg
    subst hP hw hK
    obtain ⟨f0, f1, f2, f3, f4, f5⟩ := hf it (List.mem_singleton.mpr rfl)
    have hi : x.cps.size ≤ i := hg
    exact wpAny_pyNext_ascii_end (I.ok.hd hc) st (by simp [hi]) fun h1 eb => ⟨rfl, I.turned (t' := s.toks) (fun b o hb e => eb b o hb e) f0 f1 f3 f4 f5⟩
  self := fun _ _ _ _ _ st h => wpAny_pyIter_striter_ascii st h
noncomputable def Qt (tl : TE) : TI := fun σ H R => tl σ H fun v H1 => ∃ x, v = .str x ∧ x.cps.all (· < 128) = true ∧ R (Its x) H1
theorem jc {tg l : Expr} {tl : TE} (hl : PE X l tl) : PI X tg l (Qt tl) := by
  intro pins s σ H R I h
  refine thn (hl pins s σ H _ I h) fun v s1 ⟨y, H1, I1, r1, q1⟩ => ?_
  obtain ⟨x, rfl, ha, q⟩ := q1
  obtain ⟨t, rfl⟩ := r1
  refine wpAny_pyIter_ascii ha ⟨s1.heap.objs.size, [s1.heap.objs.size], _, _, H1, rfl, I1.kept (t' := s1.toks) fun b o e => Heap.get?_push_of_some _ e, kQ x t _, ⟨_, Heap.get?_push_size _ rfl, rfl, rfl⟩, fun b hb => ?_, q⟩
  cases List.mem_singleton.mp hb
  exact I1.fpOk (Nat.le_refl _) (I1.hok.fresh (Nat.le_refl _))
noncomputable def ZJ : V → List V → Hp → VK → Prop := fun x xs H Q => ∃ z y, x = .str z ∧ xs = [.str y] ∧ (y.length == 0) = false ∧ z.length ≤ 100000 ∧ ∀ p, H p = none → Q (.ref p) (upd H p (.lst ((Txt.split z y).map .str)))
theorem qk : ∀ {l : List (Str × Tok)} {zs : List Str}, l.map (·.1) = zs → Vals (zs.map V.str) (strValues l)
  | [], _, rfl => .nil
  | (z, t) :: l, _, rfl => .cons ⟨t, rfl⟩ (qk rfl)
theorem Y4 : MtR X "str.split" ZJ := by
  intro pins s σ H x xs v us Q I rx r h
  obtain ⟨z, y, rfl, rfl, hy, hz, q⟩ := h
  obtain ⟨u, rfl, t, rfl⟩ := xv r
  obtain ⟨t', rfl⟩ := rx
  have hsz : z.length ≤ sizeLine := by rw [sizeLine_eq]; omega
  have hsp := split_le z y
  have fin : ∀ (l : List (Str × Tok)) (k : Tok), l.map (·.1) = Txt.split z y → EP X pins σ Q (.ref s.heap.objs.size) { s with toks := k, heap := s.heap.push { cls := .type "list", data := .seq (strValues l).toArray } } := fun l k e => by
    have len : ((Txt.split z y).map V.str).length ≤ sizeLine := by rw [List.length_map, sizeLine_eq]; omega
    exact ⟨.ref s.heap.objs.size, _, I.laid (t' := k) (o := .lst ((Txt.split z y).map .str)) (fun b ob g => Heap.get?_push_of_some _ g) (Nat.le_refl _) ⟨len, strValues l, 0, qk e, Heap.get?_push_size _ rfl⟩, rfl, q _ (I.hok.fresh (Nat.le_refl _))⟩
  cases h1 : (decide (z.length < y.length) || decide (Builtin.Str.strKind z < Builtin.Str.strKind y)) with
  | true =>
    have e : [z] = Txt.split z y := (if_pos h1).symm
    refine call_meets PySem.F.slot_str_split (typeIs_str _ _ _) PySem.F.entry_str_split ?_ (meets_str_split_cannot_occur z y t' t h1) ?_
    · exact PySem.F.args_str_split_2 _ _
    · exact fin [(z, t')] s.toks e
  | false =>
    cases hf : (Builtin.Str.occurrences z y 0 z.length (z.length + 1)).isEmpty with
    | true =>
      have e : [z] = Txt.split z y := ((if_neg (by rw [h1]; decide)).trans (if_pos hf)).symm
      refine call_meets PySem.F.slot_str_split (typeIs_str _ _ _) PySem.F.entry_str_split ?_ (meets_str_split_not_found z y t' t h1 hy hf) ?_
      · exact PySem.F.args_str_split_2 _ _
      · exact fin [(z, t')] s.toks e
    | false =>
      have e : Builtin.Str.partsBetween z (Builtin.Str.occurrences z y 0 z.length (z.length + 1)) y.length = Txt.split z y := ((if_neg (by rw [h1]; decide)).trans (if_neg (by rw [hf]; decide))).symm
      refine call_meets PySem.F.slot_str_split (typeIs_str _ _ _) PySem.F.entry_str_split ?_ (meets_str_split_sep z y t' t h1 hy hf hsz ?_) ?_
      · exact PySem.F.args_str_split_2 _ _
      · rw [e, sizeLine_eq]; omega
      · show wants _ _ _ _
        rw [strsFrom_eq]
        exact fin (numbered s.toks _) _ ((numbered_texts _ _).trans e)
end
end L2
namespace L2
open PySem PySem.Spec PyProof.Rows
section
variable {X : Cx} {K : PySem.W.Frag}
noncomputable def Qu (K : PySem.W.Frag) (ta tb : TE) : TE := fun σ H Q => ta σ H fun x H1 => ∃ k, uH K x H1 k ∧ if k = true then Q x H1 else tb σ H1 Q
theorem Qv {a b : Expr} {zO : List Expr} {pos : Pos} {ta tb : TE} (hK : X.K = K) (ha : PE X a ta) (hb : PE X (.BoolOp .Or (b :: zO) pos) tb) : PE X (.BoolOp .Or (a :: b :: zO) pos) (Qu K ta tb) := by
  subst hK
  intro pins s σ H Q I h
  refine BoolOp_or (thn (ha pins s σ H _ I h) fun v s1 ⟨x, H1, I1, r1, q1⟩ => ?_)
  obtain ⟨k, tk, q1⟩ := q1
  refine thn (Zi pins s1 σ H1 x v (fun c H2 => if c = true then Q x H2 else tb σ H2 Q) I1 r1 ⟨k, tk, q1⟩) fun c s2 ⟨H2, I2, q2⟩ => ?_
  cases c with
  | true => exact ⟨x, H2, I2, r1, q2⟩
  | false => exact hb pins s2 σ H2 Q I2 q2
noncomputable def Y5 (K : PySem.W.Frag) : List V → Hp → VK → Prop := fun xs H Q => ∃ a ys, xs = [.ref a, .ty "tuple"] ∧ SqT K H a ys ∧ Q (.bl true) H
theorem Y6 : zP X (.builtin "isinstance") (Y5 X.K) := by
  intro pins s σ H xs us Q I r h
  obtain ⟨a, ys, rfl, hq, q⟩ := h
  obtain ⟨u, c, rfl, ru, rc⟩ := r.two
  cases rc
  cases ru
  obtain ⟨its, rv, p, _⟩ := I.tuple hq
  obtain ⟨o, h1, h2, _⟩ := p
  exact PySem.W.kia_one PySem.W.kitx_tuple I.kIn ⟨o, h1, h2⟩ (show PySem.W.kitOne X.K (.type "tuple") (.type "tuple") = some true from rfl) (fun z => nomatch z) fun tk => ⟨.bl true, H, I.tok tk, rfl, q⟩
theorem ZK (h : X.K = K) : zP X (.builtin "isinstance") (Y5 K) := by subst h; exact Y6
theorem Qw (h : X.K = K) (hc : X.calm = true) : zP X (.builtin "any") (Y2 K) := by subst h; exact ZG hc
theorem vK (h : X.K = K) : MtR X "str.join" (kO K) := by subst h; exact V0
noncomputable def Qx (Ta Tb : TEW) : TEW := fun ρ O R => Ta ρ O fun x O1 => ∃ b, v1 O1 x = some b ∧ ul x ∧ if b = true then R x O1 else Tb ρ O1 R
theorem V1 {ta tb : TE} {Ta Tb : TEW} (ha : zj K ta Ta) (hb : zj K tb Tb) : zj K (Qu K ta tb) (Qx Ta Tb) := by
  intro Γ O H ρ σ S r0 Q R hT k
  refine ha Γ O H ρ σ S r0 _ _ hT fun Γ1 O1 H1 x v l1 S1 rx h1 => ?_
  obtain ⟨c, e, hs, h1⟩ := h1
  refine ⟨c, qZ S1 rx e hs, ?_⟩
  cases c with
  | true => rw [if_pos rfl] at h1 ⊢; exact k _ _ _ _ _ l1 S1 rx h1
  | false => rw [if_neg (by decide)] at h1 ⊢; exact hb _ _ _ _ _ S1 (r0.mono l1) _ _ h1 fun Γ2 O2 H2 y u l2 S2 ry h2 => k _ _ _ _ _ (l1.trans l2) S2 ry h2
noncomputable def uQ (z : Str) : W := .d (.str z)
theorem ql {Γ : Gh} : ∀ {zs : List Str} {vs : List V}, relWs K Γ (zs.map uQ) vs → vs = zs.map V.str
  | [], _, .nil => rfl
  | z :: zs, _, .cons r t => by rw [ql t, show _ = V.str z from r]; rfl
theorem uw {Γ : Gh} : ∀ {bs : List Bool} {vs : List V}, relWs K Γ (bs.map fun b => .d (.bool b)) vs → vs = bs.map V.bl
  | [], _, .nil => rfl
  | b :: bs, _, .cons r t => by rw [uw t, show _ = V.bl b from r]; rfl
noncomputable def XZ : W → List W → OM → WK → Prop := fun x xs O R => ∃ sep w, ∃ zs : List Str, x = .d (.str sep) ∧ xs = [w] ∧ zr O w = some (zs.map uQ) ∧ sep.length ≤ 16 ∧ (zs.map (·.length)).sum + zs.length ≤ 1048576 ∧ R (.d (.str (Txt.join sep zs))) O
theorem Qy {T : String} : RefM K T (kO K) XZ := by
  rintro Γ O H x v xs vs S rx rs Q R ⟨sep, w, zs, rfl, rfl, e, h1, h2, h⟩ k
  cases rs with
  | cons rw t =>
    cases t
    obtain ⟨a, us, rfl, q1, q2⟩ := zJ S rw e
    rw [ql q2] at q1
    exact ⟨sep, a, zs, rx, rfl, q1, h1, h2, k _ _ _ _ _ (Le.refl _) S y9 h⟩
noncomputable def ZL : W → List W → OM → WK → Prop := fun x xs O R => ∃ z y, x = .d (.str z) ∧ xs = [.d (.str y)] ∧ (y.length == 0) = false ∧ z.length ≤ 100000 ∧ R (.d (.list ((Txt.split z y).map .str))) O
theorem qm {Z : Hp} : ∀ zs : List Str, Reps K Z (zs.map PyData.str) (zs.map V.str)
  | [] => rfl
  | z :: zs => ⟨_, _, rfl, rfl, qm zs⟩
theorem V2 {T : String} : RefM K T ZJ ZL := by
  rintro Γ O H x v xs vs S rx rs Q R ⟨z, y, rfl, rfl, h1, h2, h⟩ k
  cases rs with
  | cons rw t =>
    cases t
    refine ⟨z, y, rx, by rw [show _ = V.str y from rw], h1, h2, fun p hp => ?_⟩
    obtain ⟨Γ', le, S', r'⟩ := ve S (qm (Txt.split z y)) hp
    exact k _ _ _ _ _ le S' r' h
noncomputable def ZM : W → List W → OM → WK → Prop := fun x xs O R => ∃ z y, x = .d (.str z) ∧ xs = [.d (.str y)] ∧ 0 ≤ Txt.find z y ∧ R (.d (.int (Txt.find z y))) O
theorem V3 {T : String} : RefM K T ZI ZM := by
  rintro Γ O H x v xs vs S rx rs Q R ⟨z, y, rfl, rfl, h1, h⟩ k
  cases rs with
  | cons rw t =>
    cases t
    exact ⟨z, y, rx, by rw [show _ = V.str y from rw], h1, k _ _ _ _ _ (Le.refl _) S xa h⟩
noncomputable def X0 : List W → OM → WK → Prop := fun xs O R => ∃ w, ∃ bs : List Bool, xs = [w] ∧ zr O w = some (bs.map fun b => .d (.bool b)) ∧ R (.d (.bool (bs.any id))) O
theorem Ji : RefC K (Y2 K) X0 := by
  rintro Γ O H xs vs S rs Q R ⟨w, bs, rfl, e, h⟩ k
  cases rs with
  | cons rw t =>
    cases t
    obtain ⟨a, us, rfl, q1, q2⟩ := zJ S rw e
    rw [uw q2] at q1
    exact ⟨a, bs, rfl, q1, k _ _ _ _ _ (Le.refl _) S ya h⟩
noncomputable def X1 : List W → OM → WK → Prop := fun xs O R => ∃ z n, xs = [.d (.str z)] ∧ intText? z = some n ∧ z.length ≤ 640 ∧ R (.d (.int n)) O
theorem Qz : RefC K (fun xs H Q => ∃ z n, xs = [.str z] ∧ intText? z = some n ∧ z.length ≤ 640 ∧ Q (.int n) H) X1 := by
  rintro Γ O H xs vs S rs Q R ⟨z, n, rfl, h1, h2, h⟩ k
  cases rs with
  | cons rw t =>
    cases t
    exact ⟨z, n, by rw [show _ = V.str z from rw], h1, h2, k _ _ _ _ _ (Le.refl _) S xa h⟩
noncomputable def ZN (Ta : TEW) : TEW := fun ρ O R => Ta ρ O fun x O1 => ∃ ds, x = .d (.tuple ds) ∧ R (.d (.bool true)) O1
theorem V4 {ta : TE} {Ta : TEW} (h : zj K ta Ta) : zj K (tCB (Y5 K) (yZ ta (yZ (tC (.ty "tuple")) xA))) (ZN Ta) := by
  intro Γ O H ρ σ S r Q R hT k
  refine h _ _ _ _ _ S r _ _ hT fun Γ1 O1 H1 x v l1 S1 rx h1 => ?_
  obtain ⟨ds, rfl, h1⟩ := h1
  obtain ⟨a, vs, rfl, q1, _⟩ := yH S1 rx rfl
  exact ⟨a, vs, rfl, q1, k _ _ _ _ _ l1 S1 ya h1⟩
noncomputable def yv (x : Str) : List W := x.cps.toList.map fun c => .d (.str ⟨#[c]⟩)
noncomputable def QB (T : TEW) : TIW := fun ρ O R => T ρ O fun w O1 => ∃ x, w = .d (.str x) ∧ x.cps.all (· < 128) = true ∧ R (yv x) (fun _ => True) O1
theorem Y7 {t : TE} {T : TEW} (h : zj K t T) : vf K (Qt t) (QB T) := by
  intro Γ O H ρ σ S r Q R hT k
  refine h _ _ _ _ _ S r _ _ hT fun Γ1 O1 H1 w v l1 S1 r1 h1 => ?_
  obtain ⟨x, rfl, ha, h1⟩ := h1
  refine ⟨x, r1, ha, k _ _ _ _ _ _ l1 S1 (fun i Γ' O' H' hz hg S' _ => ⟨fun w' hw => ?_, fun hi => ?_⟩) h1⟩
  · unfold yv at hw
    rw [List.getElem?_map] at hw
    cases hc : x.cps.toList[i]? with
    | none => rw [hc] at hw; cases hw
    | some c =>
      rw [hc] at hw
      cases hw
      have hi : i < x.cps.size := by
        have := (List.getElem?_eq_some_iff.mp hc).1
        simpa using this
      refine ⟨hi, fun y H2 ⟨e2, d, hd, hy⟩ => ?_⟩
      subst e2
      have : d = c := by
        have h3 : x.cps.toList[i]? = some d := by rw [Array.getElem?_toList]; exact hd
        rw [hc] at h3; cases h3; rfl
      subst this
      exact ⟨Γ', Le.refl _, S', by rw [hy]; exact y9⟩
  · show x.cps.size ≤ i
    rw [hi]; simp [yv]
end
end L2
namespace L2
open PySem PySem.Spec PyProof.Rows
section
variable {X : Cx} {K : PySem.W.Frag}
noncomputable def QC : R2 := fun x y H Q => ∃ i j, x = .str i ∧ y = .str j ∧ Q (.bl (!decide (j.cps.toList < i.cps.toList))) H
theorem yy : OpR X (compareOp .LtE) QC := by
  intro pins s σ H x y v u Q I rx ry h
  obtain ⟨i, j, rfl, rfl, q⟩ := h
  obtain ⟨t, rfl⟩ := rx
  obtain ⟨t', rfl⟩ := ry
  exact PySem.P.le_str (zo I q rfl)
noncomputable def QD : R2W := fun x y O R => ∃ i j, x = .d (.str i) ∧ y = .d (.str j) ∧ R (.d (.bool (!decide (j.cps.toList < i.cps.toList)))) O
theorem Jj : RefR K QC QD := by
  rintro Γ O H x y v u S rx ry Q R ⟨i, j, rfl, rfl, h⟩ k
  exact ⟨i, j, rx, ry, k _ _ _ _ _ (Le.refl _) S ya h⟩
noncomputable def QE : V → Option Int → Option Int → Hp → VK → Prop := fun x lo hi H Q => ∃ z, x = .str z ∧ z.length ≤ sizeLine ∧ Q (.str (Txt.slice z lo hi)) H
theorem uR : SlR X QE := by
  intro pins s σ H x v vl vu lo hi sl Q I rx hs pl pu h
  obtain ⟨z, rfl, hz, q⟩ := h
  obtain ⟨t, rfl⟩ := rx
  refine ⟨"str", _, PySem.F.slot_str_getitem.lookup, typeIs_str _ _ _, ?_⟩
  have fin : ∀ tk k, EP X pins σ Q (.str (Txt.slice z lo hi) tk) { s with toks := k } := fun tk k => ⟨.str _, H, I.tok _, ⟨_, rfl⟩, q⟩
  cases pl with
  | none => cases pu with
    | none => exact wpAny_getItem_str_slice (l := none) (u := none) (st := none) hs rfl (post_val_or_str ⟨Nat.le_trans (Txt.slice_le z _ _) hz, fin⟩)
    | int j uj => exact wpAny_getItem_str_slice (l := none) (u := some (j, uj)) (st := none) hs rfl (post_val_or_str ⟨Nat.le_trans (Txt.slice_le z _ _) hz, fin⟩)
  | int i ui => cases pu with
    | none => exact wpAny_getItem_str_slice (l := some (i, ui)) (u := none) (st := none) hs rfl (post_val_or_str ⟨Nat.le_trans (Txt.slice_le z _ _) hz, fin⟩)
    | int j uj => exact wpAny_getItem_str_slice (l := some (i, ui)) (u := some (j, uj)) (st := none) hs rfl (post_val_or_str ⟨Nat.le_trans (Txt.slice_le z _ _) hz, fin⟩)
noncomputable def QF (Te : TEW) (Tl Th : TOW) : TEW := fun ρ O R => Te ρ O fun x O1 => Tl ρ O1 fun l O2 => Th ρ O2 fun u O3 => ∃ z, x = .d (.str z) ∧ z.length ≤ sizeLine ∧ R (.d (.str (Txt.slice z l u))) O3
theorem V5 {te : TE} {tl th : TO} {Te : TEW} {Tl Th : TOW} (he : zj K te Te) (hl : uN K tl Tl) (hh : uN K th Th) : zj K (tSl QE te tl th) (QF Te Tl Th) := by
  intro Γ O H ρ σ S r Q R hT k
  refine he _ _ _ _ _ S r _ _ hT fun Γ1 O1 H1 x v l1 S1 rx h1 => ?_
  refine hl _ _ _ _ _ S1 (r.mono l1) _ _ h1 fun Γ2 O2 H2 l l2 S2 h2 => ?_
  refine hh _ _ _ _ _ S2 (r.mono (l1.trans l2)) _ _ h2 fun Γ3 O3 H3 u l3 S3 h3 => ?_
  obtain ⟨z, rfl, hz, h3⟩ := h3
  exact ⟨z, rx, hz, k _ _ _ _ _ ((l1.trans l2).trans l3) S3 y9 h3⟩
noncomputable def jW : W → List W → OM → WK → Prop := fun x xs O R => ∃ l b ws us, x = .own l ∧ xs = [.own b] ∧ O l = some (.lst ws) ∧ O b = some (.lst us) ∧ ws.length + us.length ≤ 100000 ∧ R (.d .none) (updO O l (.lst (ws ++ us)))
theorem Y8 {T : String} : RefM K T jP jW := by
  rintro Γ O H x v xs vs S rx rs Q R ⟨l, b, ws, us, rfl, rfl, hl, hb, hn, h⟩ k
  cases rs with
  | cons rw t =>
    cases t
    cases (show v = .ref l from rx)
    obtain ⟨_, vl, q1, q2⟩ := S.o _ _ hl
    obtain ⟨_, vb, p1, p2⟩ := S.o _ _ hb
    refine ⟨l, b, vl, vb, rfl, by rw [show _ = V.ref b from rw], q1, p1, by rw [← Paired.length q2, ← Paired.length p2, sizeLine_eq]; omega, ?_⟩
    exact k _ _ _ _ _ (Le.refl _) (S.put (oo := .lst _) hl (by intro _ h; cases h) (by intro _ h; cases h) ⟨_, zh, Paired.appP q2 p2⟩) vF h
end
end L2
namespace L2
open PySem PySem.Spec PyProof.Rows
section
variable {K : PySem.W.Frag}
noncomputable def X2 : R2W := fun x y O R => ∃ ws us ds es, zr O x = some ws ∧ zr O y = some us ∧ zU ws = some ds ∧ zU us = some es ∧ ds.length + es.length ≤ 1000000 ∧ R (.d (.list (ds ++ es))) O
theorem QG : RefR K (Yv K) X2 := by
  rintro Γ O H x y v u S rx ry Q R ⟨ws, us, ds, es, e1, e2, e3, e4, hl, h⟩ k
  obtain ⟨a, vs, rfl, q1, q2⟩ := zJ S rx e1
  obtain ⟨b, zs, rfl, p1, p2⟩ := zJ S ry e2
  rw [z9 e3] at q2
  rw [z9 e4] at p2
  have q3 := zq q2
  have p3 := zq p2
  refine ⟨a, b, vs, zs, rfl, rfl, q1, p1, by rw [← Reps.length q3, ← Reps.length p3, sizeLine_eq]; omega, fun p hp => ?_⟩
  obtain ⟨Γ', l', S', r'⟩ := ve S (v7 q3 p3) hp
  exact k _ _ _ _ _ l' S' r' h
end
end L2
namespace L2
open PySem PySem.Spec PyProof.Rows
section
variable {K : PySem.W.Frag}
theorem jd {Z : Hp} {ds : List PyData} {vs : List V} (h : Reps K Z ds vs) : ∀ n, Reps K Z (List.replicate n ds).flatten (List.replicate n vs).flatten
  | 0 => rfl
  | n + 1 => by
    rw [List.replicate_succ, List.replicate_succ, List.flatten_cons, List.flatten_cons]
    exact v7 h (jd h n)
noncomputable def X3 : R2W := fun x y O R => ∃ a ws ds n, x = .own a ∧ y = .d (.int n) ∧ O a = some (.lst ws) ∧ zU ws = some ds ∧ 0 ≤ n ∧ n ≤ 1000 ∧ ds.length * n.toNat ≤ 100000 ∧ R (.d (.list (List.replicate n.toNat ds).flatten)) O
theorem QH : RefR K UO X3 := by
  rintro Γ O H x y v u S rx ry Q R ⟨a, ws, ds, n, rfl, rfl, ho, e, n0, n1, hl, h⟩ k
  cases (show v = .ref a from rx)
  obtain ⟨_, vs, q1, q2⟩ := S.o _ _ ho
  rw [z9 e] at q2
  have q3 := zq q2
  refine ⟨a, n, vs, rfl, ry, q1, by omega, by omega, by rw [← Reps.length q3, sizeLine_eq]; omega, fun p hp => ?_⟩
  obtain ⟨Γ', le, S', r'⟩ := ve S (jd q3 n.toNat) hp
  exact k _ _ _ _ _ le S' r' h
noncomputable def ZO (Ta : TEW) : TEW := fun ρ O R => Ta ρ O fun x O1 => ∃ a ws, x = .own a ∧ O1 a = some (.lst ws) ∧ R (.d (.bool true)) O1
theorem V6 {ta : TE} {Ta : TEW} (h : zj K ta Ta) : zj K (tCB (YT K) (yZ ta (yZ (tC (.ty "list")) xA))) (ZO Ta) := by
  intro Γ O H ρ σ S r Q R hT k
  refine h _ _ _ _ _ S r _ _ hT fun Γ1 O1 H1 x v l1 S1 rx h1 => ?_
  obtain ⟨a, ws, rfl, ho, h1⟩ := h1
  cases (show v = .ref a from rx)
  obtain ⟨_, vs, q1, _⟩ := S1.o _ _ ho
  exact ⟨_, _, _, true, rfl, .lst q1, rfl, k _ _ _ _ _ l1 S1 ya h1⟩
end
end L2
namespace L2
open PySem PySem.Spec PyProof.Rows
structure ST where
  w : Nat
  h : Nat
  row : Int
  col : Int
  late : Bool
  ink : Int
  wrap : Bool
  putting : Bool
  home : Bool
  top : Int
  bottom : Int
  left : Int
  right : Int
  last : PyData
  pic : PF
noncomputable def fldW (p st kp : Addr) (S : ST) : List (Str × W) := [("picture", .own p), ("wide", .d (.int S.w)), ("high", .d (.int S.h)), ("row", .d (.int S.row)), ("column", .d (.int S.col)), ("late", .d (.bool S.late)), ("ink", .d (.int S.ink)), ("wrap", .d (.bool S.wrap)), ("putting", .d (.bool S.putting)), ("home", .d (.bool S.home)), ("top", .d (.int S.top)), ("bottom", .d (.int S.bottom)), ("left", .d (.int S.left)), ("right", .d (.int S.right)), ("stops", .own st), ("kept", .own kp), ("last", .d S.last)]
noncomputable def ownW (q : Addr) (S : ST) : List (Key × W) := [(Sum.inr "wide", .d (.int S.w)), (Sum.inr "high", .d (.int S.h)), (Sum.inr "top", .d (.int S.top)), (Sum.inr "left", .d (.int S.left)), (Sum.inr "cells", .own q), (Sum.inr "bottom", .d (.int S.bottom)), (Sum.inr "right", .d (.int S.right)), (Sum.inr "home", .d (.bool S.home)), (Sum.inr "putting", .d (.bool S.putting)), (Sum.inr "wrap", .d (.bool S.wrap)), (Sum.inr "last", .d S.last), (Sum.inr "late", .d (.bool S.late)), (Sum.inr "ink", .d (.int S.ink)), (Sum.inr "row", .d (.int S.row)), (Sum.inr "column", .d (.int S.col))]
section
variable {p st kp q : Addr} {S : ST}
end
structure StAt (O : OM) (C x dx p st kp : Addr) (S : ST) : Prop where
  x : O x = some (.ins C dx (fldW p st kp S))
  p : O p = some (.grid (genG S.h S.w S.pic))
  st : O st = some (.dK ((List.range ((S.w - 1) / 4)).map fun i => (Sum.inl (4 + (i : Nat) * 4 : Int), W.d (.bool true))))
  kp : O kp = some (.lst [])
theorem neW {O : OM} {a b : Addr} {o u : OO} (h : O a = some o) (h' : O b = some u) (d : o ≠ u) : a ≠ b := by
  intro e; subst e; rw [h] at h'; exact d (Option.some.inj h')
section
variable {O O' : OM} {C x dx p st kp : Addr} {S : ST}
theorem StAt.xp (s : StAt O C x dx p st kp S) : x ≠ p := neW s.x s.p (by intro h; cases h)
theorem StAt.xs (s : StAt O C x dx p st kp S) : x ≠ st := neW s.x s.st (by intro h; cases h)
theorem StAt.xk (s : StAt O C x dx p st kp S) : x ≠ kp := neW s.x s.kp (by intro h; cases h)
theorem StAt.ps (s : StAt O C x dx p st kp S) : p ≠ st := neW s.p s.st (by intro h; cases h)
theorem StAt.pk (s : StAt O C x dx p st kp S) : p ≠ kp := neW s.p s.kp (by intro h; cases h)
noncomputable def But (O O' : OM) (x p : Addr) : Prop := ∀ b, b ≠ x → b ≠ p → O' b = O b
theorem But.refl : But O O x p := fun _ _ _ => rfl
theorem But.trans {O1 O2 : OM} (a : But O O1 x p) (b : But O1 O2 x p) : But O O2 x p := fun c h1 h2 => (b c h1 h2).trans (a c h1 h2)
theorem But.up {o : OO} : But O (updO O p o) x p := fun _ _ h => ze h
theorem StAt.pic (s : StAt O C x dx p st kp S) {f : PF} : StAt (updO O p (.grid (genG S.h S.w f))) C x dx p st kp { S with pic := f } :=
  ⟨by rw [ze s.xp]; exact s.x, zi, by rw [ze (Ne.symm s.ps)]; exact s.st, by rw [ze (Ne.symm s.pk)]; exact s.kp⟩
theorem StAt.of (s : StAt O C x dx p st kp S) {S' : ST} (hx : O' x = some (.ins C dx (fldW p st kp S'))) (hp : O' p = some (.grid (genG S'.h S'.w S'.pic))) (hw : S'.w = S.w) (b : But O O' x p) : StAt O' C x dx p st kp S' :=
  ⟨hx, hp, by rw [b _ (Ne.symm s.xs) (Ne.symm s.ps), hw]; exact s.st, by rw [b _ (Ne.symm s.xk) (Ne.symm s.pk)]; exact s.kp⟩
theorem StAt.keep (s : StAt O C x dx p st kp S) {y z : Addr} (b : But O O' y z) (h1 : x ≠ y) (h2 : x ≠ z) (h3 : p ≠ y) (h4 : p ≠ z) (h5 : st ≠ y) (h6 : st ≠ z) (h7 : kp ≠ y) (h8 : kp ≠ z) : StAt O' C x dx p st kp S :=
  ⟨by rw [b _ h1 h2]; exact s.x, by rw [b _ h3 h4]; exact s.p, by rw [b _ h5 h6]; exact s.st, by rw [b _ h7 h8]; exact s.kp⟩
end
structure Bds (S : ST) : Prop where
  w1 : 1 ≤ S.w
  w2 : S.w ≤ 24
  h1 : 1 ≤ S.h
  h2 : S.h ≤ 12
  r0 : 0 ≤ S.row
  r1 : S.row < S.h
  c0 : 0 ≤ S.col
  c1 : S.col < S.w
  t0 : 0 ≤ S.top
  tb : S.top ≤ S.bottom
  b1 : S.bottom < S.h
  l0 : 0 ≤ S.left
  lr : S.left ≤ S.right
  rr : S.right < S.w
  i0 : 0 ≤ S.ink
  i1 : S.ink < 512
end L2
namespace L2
open PySem PySem.Spec PyProof.Rows
theorem V7 {p q : Prop} [Decidable p] [Decidable q] {a b : Prop} : (if p then (if q then a else b) else b) = (if p ∧ q then a else b) := by
  by_cases hp : p <;> by_cases hq : q <;> simp [hp, hq]
noncomputable def QI : PyData → Prop
  | .none => True
  | .int i => 0 ≤ i ∧ i ≤ 1000000
  | _ => False
theorem QI.cs {n : PyData} (h : QI n) : n = .none ∨ ∃ i, n = .int i ∧ 0 ≤ i ∧ i ≤ 1000000 := by
  cases n <;> first | exact .inl rfl | exact h.elim | exact .inr ⟨_, rfl, h.1, h.2⟩
noncomputable def uS (c k : Int) : Int := (c + 7919 * k + 3) * (c + 7919 * k + 3) % 2147483647 * 48271 % 2147483647
theorem uT (c k : Int) : 0 ≤ uS c k := Int.emod_nonneg _ (by decide)
theorem uU (c k : Int) : uS c k < 2147483647 := Int.emod_lt_of_pos _ (by decide)
noncomputable def vL : SpW := fun ws O R => ∃ ns : List Int, ∃ k : Nat, ws = [.d (.list (ns.map .int)), .d (.int k)] ∧ R (.d (.int (ns.getD k 0))) O
noncomputable def xn : SpW := fun ws O R => ∃ c : Int, ∃ k : Int, ws = [.d (.int c), .d (.int k)] ∧ 0 ≤ k ∧ k ≤ 1000 ∧ Bt 1048600 c ∧ R (.d (.int (uS c k))) O
noncomputable def eL (S : ST) : Int := if S.left ≤ S.col then S.left else 0
noncomputable def eR (S : ST) : Int := if S.col ≤ S.right then S.right else S.w - 1
noncomputable def Jk (i : Int) : Cel := (Str.ofString " ", i)
noncomputable def atF (f : PF) (i j : Int) : Cel := f i.toNat j.toNat
noncomputable def mvP (f : PF) (ink t b l r dn ac : Int) : PF := fun i j =>
  if t ≤ (i : Int) ∧ (i : Int) ≤ b ∧ l ≤ (j : Int) ∧ (j : Int) ≤ r then (if t ≤ i + dn ∧ i + dn ≤ b ∧ l ≤ j + ac ∧ j + ac ≤ r then atF f (i + dn) (j + ac) else Jk ink) else f i j
noncomputable def mvS (t b l r dn ac : Int) (S : ST) : ST := { S with pic := mvP S.pic S.ink t b l r dn ac }
noncomputable def QJ (s : Int) (S : ST) : ST := { mvS S.row S.row S.col (eR S) 0 s S with late := false }
noncomputable def Jl (S : ST) : ST := { S with col := eL S, late := false }
end L2
namespace L2
open PySem PySem.Spec PyProof.Rows
end L2
namespace L2
open PySem PySem.Spec PyProof.Rows
end L2
namespace L2
open PySem PySem.Spec PyProof.Rows
end L2
namespace L2
open PySem PySem.Spec PyProof.Rows
end L2
namespace L2
open PySem PySem.Spec PyProof.Rows
noncomputable abbrev T3 := Nat × Nat × Int
noncomputable def Cov (f : Nat → Int) : Nat → List T3 → Nat → Prop
  | a, [], b => a = b
  | a, t :: l, b => t.1 = a ∧ t.1 < t.2.1 ∧ (∀ j, t.1 ≤ j → j < t.2.1 → f j = t.2.2) ∧ Cov f t.2.1 l b
theorem Cov.le {f : Nat → Int} : ∀ {l : List T3} {a b : Nat}, Cov f a l b → a + l.length ≤ b
  | [], a, b, h => by cases h; exact Nat.le_refl _
  | t :: l, a, b, ⟨h1, h2, h3, h4⟩ => by have := h4.le; simp only [List.length_cons]; omega
theorem Cov.mem {f : Nat → Int} : ∀ {l : List T3} {a b : Nat}, Cov f a l b → ∀ t ∈ l, a ≤ t.1 ∧ t.1 < t.2.1 ∧ t.2.1 ≤ b ∧ ∀ j, t.1 ≤ j → j < t.2.1 → f j = t.2.2
  | t :: l, a, b, ⟨h1, h2, h3, h4⟩, u, hu => by
    have := h4.le
    rcases List.mem_cons.mp hu with rfl | hu
    · exact ⟨by omega, h2, by omega, h3⟩
    · obtain ⟨q1, q2, q3, q4⟩ := h4.mem u hu
      exact ⟨by omega, q2, q3, q4⟩
end L2
namespace L2
open PySem PySem.Spec PyProof.Rows
theorem Jm {T1 T2 T3 U : TSW} {D : EndsW} {ρ : WS} {O : OM} (J : WS → OM → Prop) (ht : ∀ R : WS → OM → Prop, (∀ ρ' O', J ρ' O' → R ρ' O') → yU T1 (yU T2 T3) { D with nx := R } ρ O) (hu : ∀ ρ' O', J ρ' O' → U D ρ' O') : yU T1 (yU T2 (yU T3 U)) D ρ O := ht (U D) hu
theorem X4 {S : ST} (h : Bds S) : 0 ≤ eL S ∧ eL S < S.w := by
  have := h.l0; have := h.lr; have := h.rr; have := h.w1
  unfold eL; split <;> omega
theorem Bds.left {S : ST} (h : Bds S) : Bds (Jl S) := { h with c0 := (X4 h).1, c1 := (X4 h).2 }
theorem Bds.cells {S : ST} {s : Int} (h : Bds S) : Bds (QJ s S) := { h with }
end L2
namespace L2
open PySem PySem.Spec PyProof.Rows
end L2
namespace L2
open PySem
end L2
namespace L2
open PySem PySem.Spec PyProof.Rows
end L2
namespace L2
open PySem PySem.Spec PyProof.Rows
section
variable {X : Cx} {K : PySem.W.Frag}
end
end L2
namespace L2
open PySem PySem.Spec PyProof.Rows
structure OwnAt (O : OM) (d q : Addr) (S : ST) : Prop where
  d : O d = some (.dK (ownW q S))
  q : O q = some (.grid (genG S.h S.w S.pic))
noncomputable def PicOk (S : ST) : Prop := ∀ i j, i < S.h → j < S.w → okC (S.pic i j)
noncomputable def InWin (S : ST) : Prop := S.home = true → S.top ≤ S.row ∧ S.row ≤ S.bottom ∧ S.left ≤ S.col ∧ S.col ≤ S.right
section
variable {O O' : OM} {d q : Addr} {S : ST}
theorem OwnAt.dq (s : OwnAt O d q S) : d ≠ q := neW s.d s.q (by intro h; cases h)
theorem OwnAt.pic (s : OwnAt O d q S) {f : PF} : OwnAt (updO O q (.grid (genG S.h S.w f))) d q { S with pic := f } :=
  ⟨by rw [ze s.dq]; exact s.d, zi⟩
theorem OwnAt.keep (s : OwnAt O d q S) {y z : Addr} (b : But O O' y z) (h1 : d ≠ y) (h2 : d ≠ z) (h3 : q ≠ y) (h4 : q ≠ z) : OwnAt O' d q S :=
  ⟨by rw [b _ h1 h2]; exact s.d, by rw [b _ h3 h4]; exact s.q⟩
end
structure Both (O : OM) (C x dx p st kp d q : Addr) (S S' : ST) : Prop where
  s : StAt O C x dx p st kp S
  o : OwnAt O d q S'
  ds : d ≠ st
  pq : p ≠ q
section
variable {O O' : OM} {C x dx p st kp d q : Addr} {S S' S1 : ST}
theorem Both.dx' (b : Both O C x dx p st kp d q S S') : d ≠ x := neW b.o.d b.s.x (by intro h; cases h)
theorem Both.dp (b : Both O C x dx p st kp d q S S') : d ≠ p := neW b.o.d b.s.p (by intro h; cases h)
theorem Both.qx (b : Both O C x dx p st kp d q S S') : q ≠ x := neW b.o.q b.s.x (by intro h; cases h)
theorem Both.qs (b : Both O C x dx p st kp d q S S') : q ≠ st := neW b.o.q b.s.st (by intro h; cases h)
theorem Both.st' (b : Both O C x dx p st kp d q S S') (h : StAt O' C x dx p st kp S1) (k : But O O' x p) : Both O' C x dx p st kp d q S1 S' :=
  ⟨h, b.o.keep k b.dx' b.dp b.qx (Ne.symm b.pq), b.ds, b.pq⟩
end
noncomputable def Jn (S : ST) : Prop := PicOk S ∧ SeqAt.shaped S.last = true ∧ PyData.eqv S.last S.last = true
structure Drawn (S : ST) : Prop where
  b : Bds S
  ok : PicOk S
  win : InWin S
  last : S.last = .none ∨ ∃ c, S.last = .str c ∧ S.pic S.row.toNat S.col.toNat = (c, S.ink)
  late : S.late = true → S.col = eR S ∧ S.last ≠ .none
theorem QK {c : Str} (h : PyData.strOk c = true) : SeqAt.shaped (.str c) = true ∧ PyData.eqv (.str c) (.str c) = true :=
  ⟨by simp [SeqAt.shaped, PyData.canLay0, PyData.depth, h], by simp [PyData.eqv]⟩
theorem Drawn.all {S : ST} (h : Drawn S) : Jn S := by
  refine ⟨h.ok, ?_⟩
  rcases h.last with e | ⟨c, e, e2⟩
  · rw [e]; exact ⟨rfl, rfl⟩
  · have h0 := h.ok S.row.toNat S.col.toNat (by have := h.b.r0; have := h.b.r1; omega) (by have := h.b.c0; have := h.b.c1; omega)
    rw [e2] at h0
    rw [e]
    exact QK h0
end L2
namespace L2
end L2
namespace L2
open PySem PySem.Spec PyProof.Rows
noncomputable def Old (O O' : OM) : Prop := ∀ b, O b ≠ none → O' b = O b
theorem Old.refl {O : OM} : Old O O := fun _ _ => rfl
theorem Old.upd {O O' : OM} {a : Addr} {o : OO} (h : Old O O') (ha : O a = none) : Old O (updO O' a o) := fun b hb => by
  rw [ze (fun e => by rw [e] at hb; exact hb ha)]; exact h b hb
theorem Old.new {O O' : OM} {a : Addr} (h : Old O O') (ha : O' a = none) : O a = none := by
  cases e : O a with
  | none => rfl
  | some o => rw [h a (by rw [e]; simp)] at ha; rw [ha] at e; cases e
section
variable {q : Addr} {S : ST} {a b : Int} {u : Bool} {l : PyData}
end
end L2
namespace L2
open PySem PySem.Spec PyProof.Rows
theorem PicOk.set {S : ST} {i j : Nat} {c : Str} {k : Int} (h : PicOk S) (hc : PyData.strOk c = true) : PicOk { S with pic := setF S.pic i j (c, k) } := by
  intro x y hx hy
  show okC (setF S.pic i j (c, k) x y)
  unfold setF
  split
  · exact hc
  · exact h x y hx hy
end L2
namespace L2
open PySem PySem.Spec PyProof.Rows
end L2
namespace L2
open PySem PySem.Spec PyProof.Rows
end L2
namespace L2
open PySem PySem.Spec PyProof.Rows
noncomputable def jnL : List (List Nat) → List Nat
  | [] => []
  | [a] => a
  | a :: b :: r => a ++ 59 :: jnL (b :: r)
theorem X5 : ∀ {a b x y : List Nat}, 59 ∉ a → 59 ∉ b → a ++ 59 :: x = b ++ 59 :: y → a = b ∧ x = y
  | [], [], x, y, _, _, e => ⟨rfl, by simpa using e⟩
  | [], c :: b, x, y, _, hb, e => by
    simp at e
    exact absurd (by rw [← e.1]; exact List.mem_cons_self) hb
  | c :: a, [], x, y, ha, _, e => by
    simp at e
    exact absurd (by rw [e.1]; exact List.mem_cons_self) ha
  | c :: a, d :: b, x, y, ha, hb, e => by
    simp at e
    obtain ⟨h1, h2⟩ := X5 (fun z => ha (List.mem_cons_of_mem _ z)) (fun z => hb (List.mem_cons_of_mem _ z)) e.2
    exact ⟨by rw [e.1, h1], h2⟩
theorem jX : ∀ {A B : List (List Nat)}, A ≠ [] → B ≠ [] → (∀ a ∈ A, 59 ∉ a) → (∀ b ∈ B, 59 ∉ b) → jnL A = jnL B → A = B
  | [], _, h, _, _, _, _ => absurd rfl h
  | _, [], _, h, _, _, _ => absurd rfl h
  | [a], [b], _, _, _, _, e => by rw [show a = b from e]
  | [a], b :: c :: s, _, _, ha, _, e => by
    have e : a = b ++ 59 :: jnL (c :: s) := e
    exact absurd (by rw [e]; simp) (ha a List.mem_cons_self)
  | a :: d :: r, [b], _, _, _, hb, e => by
    have e : a ++ 59 :: jnL (d :: r) = b := e
    exact absurd (by rw [← e]; simp) (hb b List.mem_cons_self)
  | a :: d :: r, b :: c :: s, _, _, ha, hb, e => by
    have e : a ++ 59 :: jnL (d :: r) = b ++ 59 :: jnL (c :: s) := e
    obtain ⟨h1, h2⟩ := X5 (ha a List.mem_cons_self) (hb b List.mem_cons_self) e
    rw [h1, jX (A := d :: r) (B := c :: s) (by simp) (by simp) (fun z hz => ha z (List.mem_cons_of_mem _ hz)) (fun z hz => hb z (List.mem_cons_of_mem _ hz)) h2]
noncomputable def spS (r : List (List Nat) × List Nat) (c : Nat) : List (List Nat) × List Nat := if c = 59 then (r.1 ++ [r.2], []) else (r.1, r.2 ++ [c])
noncomputable def spF (cs : List Nat) : List (List Nat) × List Nat := cs.foldl spS ([], [])
theorem xo {cs : List Nat} {c : Nat} : spF (cs ++ [c]) = spS (spF cs) c := by unfold spF; rw [List.foldl_append]; rfl
theorem ux : ∀ {A : List (List Nat)}, A ≠ [] → jnL (A ++ [[]]) = jnL A ++ [59]
  | [], h => absurd rfl h
  | [a], _ => rfl
  | a :: b :: r, _ => by
    show a ++ 59 :: jnL ((b :: r) ++ [[]]) = (a ++ 59 :: jnL (b :: r)) ++ [59]
    rw [ux (by simp)]
    simp
theorem je : ∀ {A : List (List Nat)} {w : List Nat} {c : Nat}, jnL (A ++ [w ++ [c]]) = jnL (A ++ [w]) ++ [c]
  | [], w, c => rfl
  | [a], w, c => by
    show a ++ 59 :: (w ++ [c]) = (a ++ 59 :: w) ++ [c]
    simp
  | a :: b :: r, w, c => by
    show a ++ 59 :: jnL ((b :: r) ++ [w ++ [c]]) = (a ++ 59 :: jnL ((b :: r) ++ [w])) ++ [c]
    rw [je (A := b :: r)]
    simp
theorem QL (cs : List Nat) : jnL ((spF cs).1 ++ [(spF cs).2]) = cs ∧ (∀ a ∈ (spF cs).1 ++ [(spF cs).2], 59 ∉ a) := by
  have key : ∀ n, ∀ cs : List Nat, cs.length = n → jnL ((spF cs).1 ++ [(spF cs).2]) = cs ∧ (∀ a ∈ (spF cs).1 ++ [(spF cs).2], 59 ∉ a) := by
    intro n
    induction n with
    | zero =>
      intro cs h
      cases List.length_eq_zero_iff.mp h
      exact ⟨rfl, fun a ha => by cases List.mem_singleton.mp ha; exact List.not_mem_nil⟩
    | succ n ih =>
      intro cs h
      obtain ⟨ds, c, rfl⟩ : ∃ ds c, cs = ds ++ [c] := ⟨cs.dropLast, cs.getLast (by intro z; rw [z] at h; cases h), (List.dropLast_concat_getLast _).symm⟩
      obtain ⟨h1, h2⟩ := ih ds (by simpa using h)
      rw [xo]
      unfold spS
      by_cases hc : c = 59
      · rw [if_pos hc]
        refine ⟨?_, fun a ha => ?_⟩
        · show jnL (((spF ds).1 ++ [(spF ds).2]) ++ [[]]) = _
          rw [ux (by simp), h1, hc]
        · rcases List.mem_append.mp ha with ha | ha
          · exact h2 a ha
          · cases List.mem_singleton.mp ha; exact List.not_mem_nil
      · rw [if_neg hc]
        refine ⟨by rw [je, h1], fun a ha => ?_⟩
        rcases List.mem_append.mp ha with ha | ha
        · exact h2 a (List.mem_append_left _ ha)
        · cases List.mem_singleton.mp ha
          intro m
          rcases List.mem_append.mp m with m | m
          · exact h2 _ (List.mem_append_right _ (List.mem_singleton.mpr rfl)) m
          · exact hc (List.mem_singleton.mp m).symm
  exact key _ cs rfl
theorem V8 (r : List (List Nat) × List Nat) (cs : List Nat) : ∃ more, (cs.foldl spS r).1 = r.1 ++ more := by
  induction cs generalizing r with
  | nil => exact ⟨[], by simp⟩
  | cons c cs ih =>
    obtain ⟨m, e⟩ := ih (spS r c)
    rw [List.foldl_cons, e]
    unfold spS
    split
    · exact ⟨[r.2] ++ m, by simp⟩
    · exact ⟨m, rfl⟩
noncomputable def zD : Str := ⟨#[59]⟩
theorem zV {a b : Str} : (a ++ b).cps.toList = a.cps.toList ++ b.cps.toList := by
  show (a.cps ++ b.cps).toList = _
  simp
theorem qo : ∀ ps : List Str, (Str.join zD ps).cps.toList = jnL (ps.map (·.cps.toList))
  | [] => rfl
  | [p] => rfl
  | p :: q :: r => by
    rw [join_cons_cons, zV, zV, qo (q :: r)]
    have e : zD.cps.toList = [59] := rfl
    have e2 : jnL ((p :: q :: r).map (·.cps.toList)) = p.cps.toList ++ 59 :: jnL ((q :: r).map (·.cps.toList)) := rfl
    rw [e, e2]
    simp
theorem jE (z : Str) : (Txt.split z zD).map (·.cps.toList) = (spF z.cps.toList).1 ++ [(spF z.cps.toList).2] := by
  obtain ⟨h1, h2⟩ := QL z.cps.toList
  refine jX ?_ (by simp) ?_ h2 ?_
  · have := split_pos z zD
    intro e
    have : (Txt.split z zD).length = 0 := by simpa using congrArg List.length e
    omega
  · intro a ha
    obtain ⟨p, hp, rfl⟩ := List.mem_map.mp ha
    exact StrLaws.split_free z 59 p hp
  · rw [h1, ← qo, StrLaws.join_split]
noncomputable def okD (z : Str) : Prop := ∀ c ∈ z.cps.toList, 48 ≤ c ∧ c ≤ 57
noncomputable def okB (z : Str) : Prop := z.length ≤ 200 ∧ ∀ c ∈ z.cps.toList, c = 59 ∨ (48 ≤ c ∧ c ≤ 57)
noncomputable def yd (cs : List Nat) : PyData := if cs = [] then .none else .int ((NumText.digitsVal cs : Nat) : Int)
noncomputable def xx (ws : List (List Nat)) : PyData := if 6 < ws.length ∨ (ws.any fun w => decide (3 < w.length)) = true then .none else .tuple (ws.map yd)
noncomputable def ye (z : Str) : PyData := xx ((spF z.cps.toList).1 ++ [(spF z.cps.toList).2])
noncomputable def okP (a : PyData) : Prop := a = .none ∨ ∃ ds : List PyData, a = .tuple ds ∧ ds.length ≤ 1000 ∧ ∀ d ∈ ds, d = .none ∨ ∃ n, d = .int n
theorem xW (z : Str) : okP (ye z) := by
  unfold ye xx
  split
  · exact .inl rfl
  · rename_i hn
    refine .inr ⟨_, rfl, by rw [List.length_map]; omega, fun d hd => ?_⟩
    obtain ⟨w, _, rfl⟩ := List.mem_map.mp hd
    unfold yd
    split
    · exact .inl rfl
    · exact .inr ⟨_, rfl⟩
noncomputable def kR : SpW := fun ws O R => ∃ c m : Int, ws = [.d (.int c), .d (.int m)] ∧ Bt 1048600 c ∧ 0 ≤ m ∧ m ≤ 60 ∧ ∀ z, okD z → z.length = m.toNat → R (.d (.str z)) O
noncomputable def sLaw5 : SpW := fun ws O R => ∃ ns : List Int, ws = [.d (.list (ns.map .int))] ∧ (∀ n ∈ ns, Bt 1048580 n) ∧ ns.length ≤ 63 ∧ ∀ O', R (.d (.bool true)) O'
theorem zu (z : Str) : z.length = z.cps.toList.length := rfl
theorem xf (sep : Str) (zs : List Str) : Txt.join sep zs = Str.join sep zs := eq_of_beq (join_plain_closes sep zs)
theorem v9 (sep : Str) : ∀ zs : List Str, (Str.join sep zs).cps.toList.length ≤ (zs.map (·.length)).sum + zs.length * sep.length
  | [] => Nat.zero_le _
  | [p] => by
    show p.cps.toList.length ≤ ([p].map (·.length)).sum + _
    rw [← zu]
    simp
  | p :: q :: r => by
    have ih := v9 sep (q :: r)
    rw [join_cons_cons, zV, zV, List.length_append, List.length_append, ← zu p, ← zu sep]
    simp only [List.map_cons, List.sum_cons, List.length_cons, Nat.add_mul] at ih ⊢
    omega
theorem vk : ∀ cs : List Nat, (Str.join ⟨#[]⟩ (cs.map fun c => ⟨#[c]⟩)).cps.toList = cs
  | [] => rfl
  | [c] => rfl
  | c :: d :: r => by
    have ih := vk (d :: r)
    show (Str.join ⟨#[]⟩ (⟨#[c]⟩ :: ⟨#[d]⟩ :: r.map _)).cps.toList = _
    rw [join_cons_cons, zV, zV]
    have ih : (Str.join ⟨#[]⟩ (⟨#[d]⟩ :: r.map fun c => ⟨#[c]⟩)).cps.toList = d :: r := ih
    rw [ih]
    rfl
theorem ZP : ∀ {ds : List PyData}, (∀ d ∈ ds, d = .none ∨ ∃ n, d = .int n) → PyData.canLayAll0 ds = true ∧ PyData.depthAll ds = 0
  | [], _ => ⟨rfl, rfl⟩
  | d :: ds, h => by
    obtain ⟨h1, h2⟩ := ZP fun x hx => h x (List.mem_cons_of_mem _ hx)
    rcases h d List.mem_cons_self with rfl | ⟨n, rfl⟩
    · exact ⟨by simp [PyData.canLayAll0, PyData.canLay0, h1], by simp [PyData.depthAll, PyData.depth, h2]⟩
    · exact ⟨by simp [PyData.canLayAll0, PyData.canLay0, h1], by simp [PyData.depthAll, PyData.depth, h2]⟩
theorem qp : ∀ {ds : List PyData}, (∀ d ∈ ds, d = .none ∨ ∃ n, d = .int n) → PyData.eqvAll ds ds = true
  | [], _ => rfl
  | d :: ds, h => by
    have h1 := qp fun x hx => h x (List.mem_cons_of_mem _ hx)
    rcases h d List.mem_cons_self with rfl | ⟨n, rfl⟩
    · simp [PyData.eqvAll, PyData.eqv, h1]
    · simp [PyData.eqvAll, PyData.eqv, h1]
theorem QM {ds : List PyData} (h : ∀ d ∈ ds, d = .none ∨ ∃ n, d = .int n) : PyData.eqv (.tuple ds) (.tuple ds) = true := by simp only [PyData.eqv]; exact qp h
theorem jf {α : Type} (l : List α) (g : α → W) (F : W → Option PyData) (k : α → PyData) (h : ∀ a, F (g a) = some (k a)) : (l.map g).filterMap F = l.map k := by
  induction l with
  | nil => rfl
  | cons a l ih => rw [List.map_cons, List.filterMap_cons, h a, ih]; rfl
end L2
namespace L2
open PySem PySem.Spec PyProof.Rows
theorem Old.del {O O' : OM} {a : Addr} (h : Old O O') (ha : O a = none) : Old O (L2.del O' a) := fun b hb => by
  rw [qX (O := O') (fun e => hb (by rw [e]; exact ha))]
  exact h b hb
noncomputable def noS : Str := ⟨#[]⟩
theorem kS {α : Type} {g : α → PyData} {l : List α} (h : ∀ a ∈ l, PyData.canLay0 (g a) = true ∧ PyData.depth (g a) ≤ 50) : PyData.canLayAll0 (l.map g) = true ∧ PyData.depthAll (l.map g) ≤ 50 := by
  induction l with
  | nil => exact ⟨rfl, Nat.zero_le _⟩
  | cons a l ih =>
    obtain ⟨h1, h2⟩ := ih fun x hx => h x (List.mem_cons_of_mem _ hx)
    obtain ⟨q1, q2⟩ := h a List.mem_cons_self
    refine ⟨?_, ?_⟩
    · simp only [List.map_cons, PyData.canLayAll0, q1, h1, Bool.and_self]
    · simp only [List.map_cons, PyData.depthAll]
      omega
theorem kT {α : Type} {g : α → PyData} {l : List α} (h : ∀ a ∈ l, PyData.eqv (g a) (g a) = true) : PyData.eqvAll (l.map g) (l.map g) = true := by
  induction l with
  | nil => rfl
  | cons a l ih => simp only [List.map_cons, PyData.eqvAll, h a List.mem_cons_self, Bool.true_and]; exact ih fun x hx => h x (List.mem_cons_of_mem _ hx)
end L2
namespace L2
open PySem PySem.Spec PyProof.Rows
theorem Y9 {α : Type} {x : α} {l : List α} : atI (x :: l) 0 = some x := y8 (xs := x :: l) (j := 0) (v := x) rfl
end L2
namespace L2
open PySem PySem.Spec PyProof.Rows
theorem jY : ∀ {l : List Str}, (∀ x ∈ l, x.length = 1) → (l.map fun x => x.length).sum = l.length
  | [], _ => rfl
  | a :: l, h => by
    simp only [List.map_cons, List.sum_cons, jY fun x hx => h x (List.mem_cons_of_mem _ hx), h a List.mem_cons_self, List.length_cons]
    omega
end L2
namespace L2
open PySem PySem.Spec PyProof.Rows
section
variable {X : Cx} {K : PySem.W.Frag}
end
end L2
namespace L2
open PySem PySem.Spec PyProof.Rows
theorem jg : ∀ (cs : List Nat) (acc : Array Nat), ((cs.map fun c => (⟨#[c]⟩ : Str)).foldl (fun acc p => acc ++ noS.cps ++ p.cps) acc).toList = acc.toList ++ cs
  | [], acc => by simp
  | c :: cs, acc => by
    rw [List.map_cons, List.foldl_cons, jg cs]
    simp [noS]
theorem Xa (cs : List Nat) : Txt.join noS (cs.map fun c => ⟨#[c]⟩) = ⟨cs.toArray⟩ := by
  show Builtin.Str.glued _ _ = _
  unfold Builtin.Str.glued
  congr 1
  apply Array.ext'
  cases cs with
  | nil => rfl
  | cons c cs =>
    show ((cs.map fun c => (⟨#[c]⟩ : Str)).foldl (fun acc p => acc ++ noS.cps ++ p.cps) #[c]).toList = _
    rw [jg]
    rfl
end L2
namespace L2
open PySem PySem.Spec PyProof.Rows
section
variable {X : Cx} {K : PySem.W.Frag}
noncomputable def yj (O : OM) (o w : W) : Option OM := match o with
  | .own a => match O a with
    | some (.lst ws) => if ws.length < 100000 then some (updO O a (.lst (ws ++ [w]))) else none
    | _ => none
  | _ => none
noncomputable def X6 : W → List W → OM → WK → Prop := fun x ws O R => ∃ w O1, ws = [w] ∧ yj O x w = some O1 ∧ R (.d .none) O1
theorem QN {T : String} : RefM K T jO X6 := by
  rintro Γ O H x v xs vs S rx rs Q R ⟨w, O1, rfl, e, h⟩ k
  cases rs with
  | cons rw t =>
    cases t
    rename_i u
    cases x with
    | d _ => cases e
    | row _ _ => cases e
    | own a =>
      cases (show v = .ref a from rx)
      simp only [yj] at e
      split at e
      · rename_i ws ho
        split at e
        · rename_i hl
          cases e
          obtain ⟨_, us, q1, q2⟩ := S.o _ _ ho
          refine ⟨a, us, u, rfl, rfl, q1, by rw [← Paired.length q2, sizeLine_eq]; omega, ?_⟩
          exact k _ _ _ _ _ (Le.refl _) (S.put (oo := .lst _) ho (by intro _ h; cases h) (by intro _ h; cases h) ⟨_, zh, Paired.appP q2 (.cons rw .nil)⟩) vF h
        · cases e
      · cases e
end
end L2
namespace L2
open PySem PySem.Spec PyProof.Rows
section
variable {X : Cx} {k : Nat} {sp : Sp} {C : Addr} {x : Str} {p pos : Pos}
theorem jZ (c : CalM X.prog X.w X.K X.mg X.base k x C sp) (hr : Room (k + 1) X.A) (hg : Gl X x) (hdb : (x == ("__debug__" : Str)) = false := by decide) : PE X (.Call (.Name x p) [] [] pos) (kt C sp [] E0 xA) := by
  obtain ⟨f, fd, ps, M, F, hm, hb⟩ := c.ex
  exact Yk M F hr hg hm hb .nil qC hdb
end
theorem Jo {X : Cx} {x y : Str} {pos : Pos} (hg : Gl X x) (h : ∃ t, X.mg x = some (.str y t)) (hd : (x == ("__debug__" : Str)) = false := by decide) : PE X (.Name x pos) (tC (.str y)) := by
  obtain ⟨t, e⟩ := h
  exact jI hg e ⟨t, rfl⟩ hd
theorem jh {z : Str} {lo hi : Option Int} {a b : Nat} (hab : a ≤ b) (hb : b ≤ z.length) (e : Builtin.Str.strSliceIndices lo hi 1 z.length = (List.range (b - a)).map (a + ·)) : (Txt.slice z lo hi).cps.toList = (z.cps.toList.drop a).take (b - a) := by
  have hz : z.length = z.cps.toList.length := rfl
  unfold Txt.slice
  rw [e]
  split
  · rename_i h
    simp at h
    have ha : a = 0 := by omega
    subst ha
    rw [List.drop_zero, List.take_of_length_le (by omega)]
  · show (((List.range (b - a)).map (a + ·)).filterMap (z.cps[·]?)) = _
    rw [List.filterMap_map]
    refine List.ext_getElem? fun i => ?_
    have key : ∀ n, n ≤ b - a → (List.range n).filterMap ((fun x => z.cps[x]?) ∘ fun x => a + x) = (z.cps.toList.drop a).take n := by
      intro n
      induction n with
      | zero => intro _; simp
      | succ n ih =>
        intro hn
        rw [List.range_succ, List.filterMap_append, ih (by omega)]
        have h1 : a + n < z.cps.toList.length := by omega
        have h2 : z.cps[a + n]? = some z.cps.toList[a + n] := by
          rw [← Array.getElem?_toList, List.getElem?_eq_getElem h1]
        have h3 : (z.cps.toList.drop a)[n]? = some z.cps.toList[a + n] := by
          rw [List.getElem?_drop, List.getElem?_eq_getElem h1]
        rw [List.take_succ, h3]
        simp [h2]
    rw [key _ (Nat.le_refl _)]
theorem Xb {z : Str} {a b : Nat} (hab : a ≤ b) (hb : b ≤ z.length) : (Txt.slice z (some (a : Int)) (some (b : Int))).cps.toList = (z.cps.toList.drop a).take (b - a) := by
  refine jh hab hb ?_
  unfold Builtin.Str.strSliceIndices sliceRange
  simp only [show (1 : Int) > 0 by decide, if_true]
  have ca : max 0 (min (if (a : Int) < 0 then (a : Int) + z.length else a) z.length) = (a : Int) := by rw [if_neg (by omega)]; omega
  have cb : max 0 (min (if (b : Int) < 0 then (b : Int) + z.length else b) z.length) = (b : Int) := by rw [if_neg (by omega)]; omega
  rw [ca, cb]
  have e : (if (a : Int) < b then ((b : Int) - a + 1 - 1) / 1 else 0).toNat = b - a := by
    split
    · rw [Int.ediv_one]; omega
    · simp; omega
  rw [e]
  refine List.map_congr_left fun k hk => ?_
  omega
theorem j4 {z : Str} {a : Nat} (ha : a ≤ z.length) : (Txt.slice z (some (a : Int)) none).cps.toList = z.cps.toList.drop a := by
  rw [jh (a := a) (b := z.length) ha (Nat.le_refl _) ?_]
  · rw [List.take_of_length_le (by rw [List.length_drop]; exact Nat.le_refl _)]
  unfold Builtin.Str.strSliceIndices sliceRange
  simp only [show (1 : Int) > 0 by decide, if_true]
  have ca : max 0 (min (if (a : Int) < 0 then (a : Int) + z.length else a) z.length) = (a : Int) := by rw [if_neg (by omega)]; omega
  rw [ca]
  have e : (if (a : Int) < z.length then ((z.length : Int) - a + 1 - 1) / 1 else 0).toNat = z.length - a := by
    split
    · rw [Int.ediv_one]; omega
    · simp; omega
  rw [e]
  refine List.map_congr_left fun k hk => ?_
  omega
theorem uV {a b : Str} (h : a.cps.toList = b.cps.toList) : a = b := by
  obtain ⟨a⟩ := a
  obtain ⟨b⟩ := b
  exact congrArg Str.mk (Array.ext' h)
noncomputable abbrev sgS (c : Nat) : Str := ⟨#[c]⟩
noncomputable abbrev sgW (c : Nat) : W := .d (.str (sgS c))
noncomputable def yk (c : Nat) : Prop := (97 ≤ c ∧ c ≤ 122) ∨ (65 ≤ c ∧ c ≤ 90)
noncomputable def zY (c : Nat) : Prop := 48 ≤ c ∧ c ≤ 57
instance (c : Nat) : Decidable (yk c) := by unfold yk; infer_instance
instance (c : Nat) : Decidable (zY c) := by unfold zY; infer_instance
noncomputable def zv (c : Nat) : PyData := if c = 10 then .tuple [.str (Str.ofString "line")] else if c = 9 then .tuple [.str (Str.ofString "tab")] else .tuple [.str (Str.ofString "sign"), .str (sgS c)]
noncomputable def Xc : PyData → Bool
  | .none => true
  | _ => false
noncomputable def rwD (b : List Nat) (c : Nat) : List PyData := if Xc (ye ⟨(b.drop 1).toArray⟩) = true then [] else [.tuple [.str (Str.ofString "row"), .str (sgS c), ye ⟨(b.drop 1).toArray⟩]]
noncomputable def rdS (b : List Nat) (c : Nat) : List Nat × List PyData :=
  if b ≠ [] ∧ yk c then ([], rwD b c)
  else if b ≠ [] ∧ (zY c ∨ c = 59) then (b ++ [c], [])
  else if c ≠ 126 ∨ b.length = 1 then ([], [zv c]) else ([126], [])
noncomputable def rdF : List Nat → List Nat → List Nat × List PyData
  | b, [] => (b, [])
  | b, c :: cs => ((rdF (rdS b c).1 cs).1, (rdS b c).2 ++ (rdF (rdS b c).1 cs).2)
theorem xN : ∀ (cs : List Nat) (b ds : List Nat), rdF b (cs ++ ds) = ((rdF (rdF b cs).1 ds).1, (rdF b cs).2 ++ (rdF (rdF b cs).1 ds).2)
  | [], b, ds => by simp [rdF]
  | c :: cs, b, ds => by simp [rdF, xN cs]
theorem Xd (b cs : List Nat) (c : Nat) : rdF b (cs ++ [c]) = ((rdS (rdF b cs).1 c).1, (rdF b cs).2 ++ (rdS (rdF b cs).1 c).2) := by
  rw [xN]
  simp [rdF]
noncomputable def okG (b : List Nat) : Prop := ∀ c ∈ b.drop 1, c = 59 ∨ (48 ≤ c ∧ c ≤ 57)
theorem xO : okG [] := fun c h => by cases h
theorem ZQ {b : List Nat} (h : okG b) (c : Nat) : okG (rdS b c).1 ∧ (rdS b c).1.length ≤ b.length + 1 ∧ (rdS b c).2.length ≤ 1 := by
  unfold rdS
  split
  · refine ⟨xO, Nat.zero_le _, ?_⟩
    show (rwD b c).length ≤ 1
    unfold rwD
    split
    · exact Nat.zero_le _
    · exact Nat.le_refl _
  · split
    · rename_i q
      refine ⟨fun d hd => ?_, by simp, Nat.zero_le _⟩
      have hd' : d ∈ (b ++ [c]).drop 1 := hd
      cases b with
      | nil => exact absurd rfl q.1
      | cons a b =>
        have hd2 : d ∈ b ++ [c] := hd'
        rcases List.mem_append.mp hd2 with z | z
        · exact h d z
        · cases List.mem_singleton.mp z
          rcases q.2 with y | y
          · exact .inr y
          · exact .inl y
    · split
      · exact ⟨xO, Nat.zero_le _, Nat.le_refl _⟩
      · exact ⟨fun d hd => (by cases hd), (by simp), Nat.zero_le _⟩
theorem uy : ∀ (cs : List Nat) {b : List Nat}, okG b → okG (rdF b cs).1 ∧ (rdF b cs).1.length ≤ b.length + cs.length ∧ (rdF b cs).2.length ≤ cs.length
  | [], b, h => ⟨h, Nat.le_refl _, Nat.le_refl _⟩
  | c :: cs, b, h => by
    obtain ⟨h1, h2, h3⟩ := ZQ h c
    obtain ⟨h4, h5, h6⟩ := uy cs h1
    refine ⟨h4, ?_, ?_⟩
    · show (rdF (rdS b c).1 cs).1.length ≤ _
      rw [List.length_cons]; omega
    · show ((rdS b c).2 ++ (rdF (rdS b c).1 cs).2).length ≤ _
      rw [List.length_append, List.length_cons]; omega
noncomputable def okI (d : PyData) : Prop := PyData.canLay0 d = true ∧ PyData.depth d ≤ 50 ∧ PyData.eqv d d = true
theorem ZR {l : List Nat} (h : ∀ c ∈ l, c < 128) : PyData.strOk ⟨l.toArray⟩ = true := by
  unfold PyData.strOk
  simp
  intro c hc
  have := h c hc
  omega
theorem ji {c : Nat} (h : c < 128) : okI (zv c) := by
  have s0 : PyData.strOk (Str.ofString "line") = true := by decide +kernel
  have s1 : PyData.strOk (Str.ofString "tab") = true := by decide +kernel
  have s2 : PyData.strOk (Str.ofString "sign") = true := by decide +kernel
  have s3 : PyData.strOk (sgS c) = true := ZR (l := [c]) fun d hd => by cases List.mem_singleton.mp hd; exact h
  unfold zv
  split
  · exact ⟨by simp [PyData.canLay0, PyData.canLayAll0, s0], by simp [PyData.depth, PyData.depthAll], by simp [PyData.eqv, PyData.eqvAll]⟩
  · split
    · exact ⟨by simp [PyData.canLay0, PyData.canLayAll0, s1], by simp [PyData.depth, PyData.depthAll], by simp [PyData.eqv, PyData.eqvAll]⟩
    · exact ⟨by simp [PyData.canLay0, PyData.canLayAll0, s2, s3], by simp [PyData.depth, PyData.depthAll], by simp [PyData.eqv, PyData.eqvAll]⟩
theorem QO {b : List Nat} {c : Nat} (h : c < 128) : ∀ d ∈ rwD b c, okI d := by
  intro d hd
  unfold rwD at hd
  split at hd
  · cases hd
  · cases List.mem_singleton.mp hd
    have s2 : PyData.strOk (Str.ofString "row") = true := by decide +kernel
    have s3 : PyData.strOk (sgS c) = true := ZR (l := [c]) fun d hd => by cases List.mem_singleton.mp hd; exact h
    rcases xW ⟨(b.drop 1).toArray⟩ with e | ⟨ds, e, _, q⟩
    · rename_i z; rw [e] at z; exact absurd rfl z
    · obtain ⟨h1, h2⟩ := ZP q
      have h3 := QM q
      rw [e]
      refine ⟨by simp [PyData.canLay0, PyData.canLayAll0, s2, s3, h1], by simp [PyData.depth, PyData.depthAll, h2], ?_⟩
      simp only [PyData.eqv, PyData.eqvAll]
      simp only [PyData.eqv] at h3
      simp [h3]
theorem V9 {b : List Nat} {c : Nat} (h : c < 128) : ∀ d ∈ (rdS b c).2, okI d := by
  intro d hd
  unfold rdS at hd
  split at hd
  · exact QO (b := b) h d hd
  · split at hd
    · cases hd
    · split at hd
      · cases List.mem_singleton.mp hd; exact ji h
      · cases hd
theorem vM : ∀ {cs : List Nat} {b : List Nat}, (∀ c ∈ cs, c < 128) → ∀ d ∈ (rdF b cs).2, okI d
  | [], b, _ => fun d hd => by cases hd
  | c :: cs, b, h => fun d hd => by
    rcases List.mem_append.mp (show d ∈ (rdS b c).2 ++ (rdF (rdS b c).1 cs).2 from hd) with z | z
    · exact V9 (h c List.mem_cons_self) d z
    · exact vM (fun x hx => h x (List.mem_cons_of_mem _ hx)) d z
theorem QP {b : List Nat} {c : Nat} (hb : ∀ x ∈ b, x < 128) (h : c < 128) : ∀ x ∈ (rdS b c).1, x < 128 := by
  intro x hx
  unfold rdS at hx
  split at hx
  · cases hx
  · split at hx
    · rcases List.mem_append.mp (show x ∈ b ++ [c] from hx) with z | z
      · exact hb x z
      · cases List.mem_singleton.mp z; exact h
    · split at hx
      · cases hx
      · cases List.mem_singleton.mp hx; decide
theorem ZS : ∀ {cs b : List Nat}, (∀ x ∈ b, x < 128) → (∀ c ∈ cs, c < 128) → ∀ x ∈ (rdF b cs).1, x < 128
  | [], b, hb, _ => hb
  | c :: cs, b, hb, h => ZS (cs := cs) (QP hb (h c List.mem_cons_self)) fun x hx => h x (List.mem_cons_of_mem _ hx)
theorem Xe {ds : List PyData} (h : ∀ d ∈ ds, okI d) : PyData.canLay0 (.list ds) = true ∧ PyData.depth (.list ds) ≤ 51 ∧ PyData.eqv (.list ds) (.list ds) = true := by
  obtain ⟨h1, h2⟩ := kS (g := fun d => d) (l := ds) fun d hd => ⟨(h d hd).1, (h d hd).2.1⟩
  have h3 := kT (g := fun d => d) (l := ds) fun d hd => (h d hd).2.2
  rw [List.map_id'] at h1 h2 h3
  exact ⟨by simp only [PyData.canLay0]; exact h1, by simp only [PyData.depth]; omega, by simp only [PyData.eqv]; exact h3⟩
noncomputable def kU (z : Str) : Prop := z.length ≤ 100000 ∧ ∀ c ∈ z.cps.toList, c = 59 ∨ (48 ≤ c ∧ c ≤ 57)
theorem Xf {z p : Str} (hz : kU z) (hp : p ∈ Txt.split z zD) : okD p ∧ p.length ≤ 100000 := by
  have e := StrLaws.join_split z zD
  refine ⟨fun c hc => ?_, Nat.le_trans (part_short hp) hz.1⟩
  have h1 : c ∈ z.cps.toList := by
    rw [← e]
    exact (mem_join zD c _).mpr (.inl ⟨p, hp, hc⟩)
  rcases hz.2 c h1 with h | h
  · exact absurd (h ▸ hc) (StrLaws.split_free z 59 p hp)
  · exact h
noncomputable def jj : SpW := fun ws O R => ∃ z, ws = [.d (.str z)] ∧ kU z ∧ R (.d (ye z)) O
noncomputable def kW : SpW := fun ws O R => ∃ c, ws = [sgW c] ∧ R (.d (.bool (decide (yk c)))) O
noncomputable def kX : SpW := fun ws O R => ∃ c, ws = [sgW c] ∧ R (.d (.bool (decide (zY c)))) O
noncomputable def yI : SpW := fun ws O R => ∃ c, ws = [sgW c] ∧ R (.d (zv c)) O
structure RdAt (C : Addr) (O : OM) (x dx p : Addr) (b : List Nat) : Prop where
  x : O x = some (.ins C dx [(Str.ofString "begun", .own p)])
  p : O p = some (.lst (b.map sgW))
noncomputable def Ho (O O' : OM) (x p : Addr) : Prop := ∀ a, O a ≠ none → a ≠ x → a ≠ p → O' a = O a
theorem RdAt.ne {C : Addr} {O : OM} {x dx p : Addr} {b : List Nat} (h : RdAt C O x dx p b) : x ≠ p := fun e => by
  have := h.x; rw [e, h.p] at this; cases this
noncomputable def jk (C : Addr) : SpW := fun ws O R => ∃ x dx, ws = [.own x] ∧ O x = some (.ins C dx []) ∧ ∀ p O', O p = none → RdAt C O' x dx p [] → (∀ a, a ≠ x → a ≠ p → O' a = O a) → R (.d .none) O'
noncomputable def uz (C : Addr) : SpW := fun ws O R => ∃ x dx p b, ws = [.own x] ∧ RdAt C O x dx p b ∧ b.length ≤ 100000 ∧ R (.d (.str ⟨b.toArray⟩)) O
noncomputable def kY (C : Addr) : SpW := fun ws O R => ∃ x dx p b c, ws = [.own x, sgW c] ∧ RdAt C O x dx p b ∧ b ≠ [] ∧ okG b ∧ b.length ≤ 100000 ∧ ∀ q p' O', RdAt C O' x dx p' [] → Ho O O' x p → O p' = none → O q = none → q ≠ p' → O' q = some (.lst ((rwD b c).map .d)) → R (.own q) O'
noncomputable def jn (C : Addr) : SpW := fun ws O R => ∃ x dx p b c, ws = [.own x, sgW c] ∧ RdAt C O x dx p b ∧ okG b ∧ b.length < 100000 ∧ ∀ q p' O', RdAt C O' x dx p' (rdS b c).1 → Ho O O' x p → (p' = p ∨ O p' = none) → O q = none → q ≠ p' → O' q = some (.lst ((rdS b c).2.map .d)) → R (.own q) O'
structure Rdr (K : PySem.W.Frag) (C : Addr) : Prop where
  cl : Cls K C
  n_begun : NoAttr K C "begun"
end L2
namespace L2
open PySem PySem.Spec PyProof.Rows
section
variable {K : PySem.W.Frag}
theorem Sim.shrink {Γ : Gh} {O O' : OM} {H : Hp} (S : Sim K Γ O' H) (h : Old O O') : Sim K Γ O H := by
  have k1 : ∀ {x : Addr} {o : OO}, O x = some o → O' x = some o := fun {x o} e => by rw [h x (by rw [e]; simp)]; exact e
  have k0 : ∀ {x : Addr}, O' x = none → O x = none := fun {x} e => by
    cases q : O x with
    | none => rfl
    | some o => rw [k1 q] at e; cases e
  refine ⟨S.z, fun x o e => ?_, S.gd, S.f, fun x o e hn => S.gn x o (k1 e) hn, S.fg, fun x o e => ⟨(S.fd x o e).1, k0 (S.fd x o e).2.1, fun b rows rs e1 => (S.fd x o e).2.2 b rows rs (k1 e1)⟩, fun x b ra rb rs ss r e1 e2 => S.u x b ra rb rs ss r (k1 e1) (k1 e2)⟩
  obtain ⟨h1, h2⟩ := S.o _ _ (k1 e)
  refine ⟨h1, h2.keep (Le.refl _) rfl rfl fun rs r hg ⟨rows, hrw⟩ hr => ?_⟩
  subst hrw
  obtain ⟨_, q2, _⟩ := S.rowIn (k1 e) hg hr
  refine ⟨rfl, rfl, ?_⟩
  rw [q2]
  exact k0 q2
theorem FnOk.forget {P : Program} {w : World} {mg : Str → Option Value} {base : Heap} {CX : CXT} {k : Nat} {f : Addr} {fd : FuncData} {ps : List Str} {s s' : SpW} (F : FnOk P w K mg base CX k f fd ps (zc K s'))
    (h : ∀ ws O R, s ws O R → s' ws O fun w O' => Old O O' ∧ R w O) : FnOk P w K mg base CX k f fd ps (zc K s) :=
  F.imp fun vs H Q E ⟨Γ, O, ws, R, S, r, hs, k⟩ => ⟨Γ, O, ws, _, S, r, h ws O R hs, fun Γ' O' H' w v l S' rw ⟨ho, hR⟩ => k Γ' O H' w v l (S'.shrink ho) rw hR⟩
noncomputable def QQ (wi : TI) (n : Nat) (js : List Nat) (g : TG) (tt : TT) (te : TE) : TE := tLc wi n js g tt te
section
variable {X : Cx} {N : List Str} {n : Nat} {js : List Nat} {scope : Scope} {cl : List (Str × Addr)} {elt tg iter : Expr} {ifs : List Expr} {pos : Pos} {wi : TI} {g : TG} {tt : TT} {te : TE}
theorem ZT {i : Nat} {x : Str} {pos' spos : Pos} (hN : X.N.Nodup) (hx : X.N[i]? = some x) (hk : X.env.scope.names.lookup x = some .local) (L : LcOk X N n js scope cl) (hc : X.calm = true) (hi : PI X tg iter wi)
    (hg : ∀ C s0 H0 fp0, PG (zR X N scope cl C s0 H0 fp0) tg g) (ht : ∀ C s0 H0 fp0, PTs (zR X N scope cl C s0 H0 fp0) ifs tt) (he : ∀ C s0 H0 fp0, PE (zR X N scope cl C s0 H0 fp0) elt te)
    (hsw : swapsWith (.ListComp elt [⟨tg, iter, ifs, 0⟩] scope pos) (some (.Name x pos')) spos.line X.env = pure true := by rfl)
    (hs : ∀ x, foldedSetIterable iter X.env x = pure x := by intro _; rfl) : PS X (.Assign [.Name x pos'] (.ListComp elt [⟨tg, iter, ifs, 0⟩] scope pos) spos) (qL (QQ wi n js g tt te) (vz i)) := Yq hN hx hk L hc hi hg ht he hsw hs
end
noncomputable def QR (Wi : TIW) (n : Nat) (js : List Nat) (G : TGW) (T : TTW) (E : TEW) : TEW := fun ρ O R => Wi ρ O fun ws keep O1 => keep O1 ∧ ws.length ≤ 1000000 ∧ ∃ Pd : PyData → Prop,
  (∀ w ∈ ws, ∀ us : WS, us.length = n → kH G T E n (yc js ρ) w (us ++ yc js ρ) O1 fun y O2 => O2 = O1 ∧ ∃ d, y = some (.d d) ∧ Pd d) ∧ ∀ ds : List PyData, ds.length = ws.length → (∀ d ∈ ds, Pd d) → R (.d (.list ds)) O1
theorem Ua {wi : TI} {Wi : TIW} {n : Nat} {js : List Nat} {g : TG} {G : TGW} {tt : TT} {T : TTW} {te : TE} {E : TEW} (hi : vf K wi Wi) (hg : RefG K g G) (ht : yi K tt T) (he : zj K te E) : zj K (QQ wi n js g tt te) (QR Wi n js G T E) := by
  intro Γ O H ρ σ S r Q R hT k
  refine hi _ _ _ _ _ S r _ _ hT fun Γ1 O1 H1 J ws keep l1 S1 ok h1 => ?_
  obtain ⟨hk, hlen, Pd, hF, hR⟩ := h1
  intro D hD
  have hFD : Γ1.F D = none := S1.f.free hD
  have r1 := qh (r.mono l1) n js
  refine ⟨fun i m σ' H' => i ≤ ws.length ∧ m = ws.length - i ∧ ∃ Γ' ρ' vs, Same Γ1.Z Γ'.Z ∧ (∀ a rs, Γ1.G a = some rs → ∃ more, Γ'.G a = some (rs ++ more)) ∧ Γ'.F = upd Γ1.F D (.lst vs) ∧ Sim K Γ' O1 H' ∧ relR K Γ' ρ' σ' ∧
    ρ'.length = n + (yc js ρ).length ∧ ρ'.drop n = yc js ρ ∧ ∃ ds, ds.length = i ∧ (∀ d ∈ ds, Pd d) ∧ Reps K Γ'.Z ds vs, ⟨_, Nat.zero_le _, rfl, _, _, [], Same.refl _, fun a rs h => ⟨[], by rw [List.append_nil]; exact h⟩, rfl, S1.frameNew hD (.lst []), r1.setF, by simp, by simp, [], rfl, fun d h => (by cases h), rfl⟩, ?_⟩
  rintro i m σ' H' ⟨hi, rfl, Γ', ρ', vs, z', g', f', S', r', n1, n2, ds, hdl, hdp, rp⟩
  obtain ⟨ok1, ok2⟩ := ok i Γ' O1 H' z' g' S' hk
  have hvl : vs.length ≤ i := by
    rw [← Reps.length rp]
    omega
  by_cases hlt : i < ws.length
  · obtain ⟨go, y⟩ := ok1 _ (List.getElem?_eq_getElem hlt)
    refine .inr ⟨go, fun σ2 H2 => ∃ Γ2 ρ2 vs2, Same Γ1.Z Γ2.Z ∧ (∀ a rs, Γ1.G a = some rs → ∃ more, Γ2.G a = some (rs ++ more)) ∧ Γ2.F = upd Γ1.F D (.lst vs2) ∧ Sim K Γ2 O1 H2 ∧ relR K Γ2 ρ2 σ2 ∧
      ρ2.length = n + (yc js ρ).length ∧ ρ2.drop n = yc js ρ ∧ ∃ ds, ds.length = i + 1 ∧ (∀ d ∈ ds, Pd d) ∧ Reps K Γ2.Z ds vs2, fun σ2 H2 h => ⟨ws.length - (i + 1), by omega, hlt, rfl, h⟩, fun x H2 hy => ?_⟩
    obtain ⟨Γ2, l2, S2, rx⟩ := y x H2 hy
    obtain ⟨us, hus, rfl⟩ := ja n1 n2
    have et : ws.take (i + 1) = ws.take i ++ [ws[i]] := (List.take_append_getElem hlt).symm
    refine hg _ _ _ _ _ _ _ S2 (r'.mono l2) rx _ _ (hF _ (List.getElem_mem hlt) us hus) fun Γ3 O3 H3 ρ3 σ3 l3 S3 r3 h3 => ?_
    obtain ⟨⟨m1, m2⟩, h3⟩ := h3
    refine ht _ _ _ _ _ S3 r3 _ _ h3 fun Γ4 O4 H4 b l4 S4 h4 => ?_
    have l24 := (l2.trans l3).trans l4
    have up : ∀ Γ5, Le Γ' Γ5 → Same Γ1.Z Γ5.Z ∧ (∀ a rs, Γ1.G a = some rs → ∃ more, Γ5.G a = some (rs ++ more)) := fun Γ5 l => ⟨z'.trans l.z, fun a rs h => by
      obtain ⟨m, e⟩ := g' a rs h
      obtain ⟨m2, e2⟩ := l.g a _ e
      exact ⟨m ++ m2, by rw [← List.append_assoc]; exact e2⟩⟩
    cases b with
    | true =>
      rw [if_pos rfl] at h4 ⊢
      refine he _ _ _ _ _ S4 (r3.mono l4) _ _ h4 fun Γ5 O5 H5 w5 v5 l5 S5 r5 h5 => ?_
      obtain ⟨rfl, h5⟩ := h5
      have l25 := l24.trans l5
      obtain ⟨d, hy5, hd⟩ := h5
      cases hy5
      have f5 : Γ5.F = upd Γ1.F D (.lst vs) := by rw [l25.f, f']
      have fD : Γ5.F D = some (.lst vs) := by rw [f5, zh]
      refine ⟨vs, S5.f _ _ fD, (by rw [sizeLine_eq]; omega), ?_⟩
      obtain ⟨u1, u2⟩ := up Γ5 l25
      refine ⟨⟨Γ5.Z, Γ5.G, upd Γ5.F D (.lst (vs ++ [v5]))⟩, ρ3, vs ++ [v5], u1, u2, ?_, S5.framePut fD _, ((r3.mono l4).mono l5).setF, m1, m2, ds ++ [d], ?_, ?_, ?_⟩
      · show upd Γ5.F D _ = _
        rw [f5, jH]
      · simp [hdl]
      · intro e he
        rcases List.mem_append.mp he with he | he
        · exact hdp e he
        · cases List.mem_singleton.mp he; exact hd
      · exact Reps.snoc (Reps.same l25.z _ _ rp) r5
    | false =>
      rw [if_neg (by decide)] at h4
      obtain ⟨_, d, h4, _⟩ := h4
      cases h4
  · have hi2 : i = ws.length := by omega
    subst hi2
    refine .inl ⟨ok2 rfl, ?_⟩
    obtain ⟨q1, q2, q3⟩ := S'.unframe f' hFD rp
    exact k ⟨upd Γ'.Z D (.lst vs), Γ'.G, Γ1.F⟩ _ _ _ _ (l1.trans ⟨rfl, z'.trans q1, g'⟩) q2 q3 (hR ds hdl hdp)
end
end L2
namespace L2
open PySem PySem.Spec PyProof.Rows
noncomputable def okT (z : Str) : Prop := ∀ c ∈ z.cps.toList, c < 128
noncomputable def uA : SpW := fun ws O R => ∃ c, ws = [.d (.int c)] ∧ Bt 1048600 c ∧ ∀ z O', Old O O' → okB z → z.length ≤ 54 → R (.d (.str z)) O'
noncomputable def Ub : SpW := fun ws O R => ∃ c, ws = [.d (.int c)] ∧ Bt 1048600 c ∧ ∀ z O', Old O O' → okT z → z.length ≤ 60 → R (.d (.str z)) O'
noncomputable def uW : SpW := fun ws O R => ∃ c, ws = [.d (.int c)] ∧ Bt 1048600 c ∧ ∀ z, okT z → z.length ≤ 60 → R (.d (.str z)) O
theorem xP {z : Str} (h : okT z) : z.cps.all (· < 128) = true := by
  rw [← Array.all_toList]
  exact List.all_eq_true.mpr fun c hc => decide_eq_true (h c hc)
theorem vN {a b : Str} (ha : okT a) (hb : okT b) : okT (a ++ b) := fun c hc => by
  rw [zV] at hc
  rcases List.mem_append.mp hc with h | h
  · exact ha c h
  · exact hb c h
theorem vO {a b : Str} : (a ++ b).length = a.length + b.length := by
  rw [zu, zV, List.length_append, ← zu, ← zu]
theorem Jp {z : Str} (h : okB z) : okT z := fun c hc => by
  rcases h.2 c hc with e | e
  · omega
  · omega
end L2
namespace L2
open PySem PySem.Spec PyProof.Rows
theorem ltA {a b : Nat} : ((#[a] : Array Nat) < #[b]) ↔ a < b := by
  show ([a] : List Nat) < [b] ↔ _
  rw [List.cons_lt_cons_iff]
  simp
theorem leA {a b : Nat} : ((#[a] : Array Nat) ≤ #[b]) ↔ a ≤ b := by
  show (¬ (([b] : List Nat) < [a])) ↔ _
  rw [List.cons_lt_cons_iff]
  simp
theorem vm {a b : Nat} : ((⟨#[a]⟩ : Str) = ⟨#[b]⟩) ↔ a = b := by simp
theorem vn {C : Addr} {O O1 : OM} {x dx p p' q : Addr} {b' : List Nat} {L : List W} (h1 : RdAt C O1 x dx p' b') (h2 : Ho O O1 x p) (h3 : ∀ a, O1 a = none → O a = none) (hq : O1 q = none) :
    RdAt C (updO O1 q (.lst L)) x dx p' b' ∧ Ho O (updO O1 q (.lst L)) x p ∧ O q = none ∧ q ≠ p' ∧ updO O1 q (.lst L) q = some (.lst L) := by
  have e1 : x ≠ q := fun e => by have := h1.x; rw [e, hq] at this; cases this
  have e2 : p' ≠ q := fun e => by have := h1.p; rw [e, hq] at this; cases this
  refine ⟨⟨by rw [ze e1]; exact h1.x, by rw [ze e2]; exact h1.p⟩, fun a ha hx hp => ?_, h3 q hq, Ne.symm e2, zi⟩
  have : a ≠ q := fun e => ha (by rw [e]; exact h3 q hq)
  rw [ze this]
  exact h2 a ha hx hp
theorem ZU {C : Addr} {O : OM} {x dx p p' : Addr} {b : List Nat} (h : RdAt C O x dx p b) (hp : O p' = none) (b' : List Nat) {O1 : OM} (e : O1 = updO (updO O p' (.lst (b'.map sgW))) x (.ins C dx [(Str.ofString "begun", .own p')])) :
    RdAt C O1 x dx p' b' ∧ Ho O O1 x p ∧ ∀ a, O1 a = none → O a = none := by
  subst e
  have e1 : p' ≠ x := fun e => by rw [e, h.x] at hp; cases hp
  refine ⟨⟨zi, by rw [ze e1, zi]⟩, fun a ha hx hpp => ?_, fun a ha => ?_⟩
  · have : a ≠ p' := fun e => ha (by rw [e]; exact hp)
    rw [ze hx, ze this]
  · by_cases q : a = x
    · subst q; rw [zi] at ha; cases ha
    · rw [ze q] at ha
      by_cases q2 : a = p'
      · subst q2; exact hp
      · rw [ze q2] at ha; exact ha
theorem ZV {C : Addr} {O : OM} {x dx p : Addr} {b : List Nat} (h : RdAt C O x dx p b) (b' : List Nat) : RdAt C (updO O p (.lst (b'.map sgW))) x dx p b' ∧ Ho O (updO O p (.lst (b'.map sgW))) x p ∧ ∀ a, updO O p (.lst (b'.map sgW)) a = none → O a = none := by
  refine ⟨⟨by rw [ze h.ne]; exact h.x, zi⟩, fun a _ _ hp => by rw [ze hp], fun a ha => ?_⟩
  by_cases q : a = p
  · subst q; rw [zi] at ha; cases ha
  · rw [ze q] at ha; exact ha
theorem Xg (b : List Nat) : Txt.join noS (b.map sgS) = ⟨b.toArray⟩ := Xa b
theorem kZ {b : List Nat} (h : b ≠ []) : Txt.slice ⟨b.toArray⟩ (some 1) none = ⟨(b.drop 1).toArray⟩ := by
  apply uV
  have hl : 1 ≤ (⟨b.toArray⟩ : Str).length := by
    show 1 ≤ b.toArray.size
    rw [List.size_toArray]
    exact List.length_pos_iff.mpr h
  have := j4 (z := ⟨b.toArray⟩) (a := 1) hl
  exact this
theorem yl {w : W} : List.lookup (Str.ofString "begun") [(Str.ofString "begun", w)] = some w := by simp [List.lookup]
end L2
namespace L2
open PySem PySem.Spec PyProof.Rows
theorem Uc {C : Addr} {O O' : OM} {x dx p : Addr} (hx : O x = none) (hp : updO O x (.ins C dx []) p = none) (ho : ∀ a, a ≠ x → a ≠ p → O' a = updO O x (.ins C dx []) a) : Old O O' ∧ O p = none ∧ p ≠ x := by
  have e : p ≠ x := fun e => by rw [e, zi] at hp; cases hp
  rw [ze e] at hp
  refine ⟨fun a ha => ?_, hp, e⟩
  have h1 : a ≠ x := fun e => ha (by rw [e]; exact hx)
  have h2 : a ≠ p := fun e => ha (by rw [e]; exact hp)
  rw [ho a h1 h2, ze h1]
theorem RdAt.old {C : Addr} {O O' : OM} {x dx p : Addr} {b : List Nat} (r : RdAt C O x dx p b) (h : Old O O') : RdAt C O' x dx p b := ⟨by rw [h x (by rw [r.x]; simp)]; exact r.x, by rw [h p (by rw [r.p]; simp)]; exact r.p⟩
theorem Old.trans' {O1 O2 O3 : OM} (h : Old O1 O2) (h' : Old O2 O3) : Old O1 O3 := fun a ha => by rw [h' a (by rw [h a ha]; exact ha), h a ha]
end L2
namespace L2
open PySem PySem.Spec PyProof.Rows
theorem j6 {P : Str → Prop} : ∀ {ds : List PyData}, (∀ d ∈ ds, ∃ z, d = .str z ∧ P z) → ∃ ps : List Str, ds = ps.map .str ∧ ∀ p ∈ ps, P p
  | [], _ => ⟨[], rfl, fun p hp => by cases hp⟩
  | d :: ds, h => by
    obtain ⟨z, rfl, hz⟩ := h d List.mem_cons_self
    obtain ⟨ps, rfl, hp⟩ := j6 fun e he => h e (List.mem_cons_of_mem _ he)
    exact ⟨z :: ps, rfl, fun p hp' => by
      rcases List.mem_cons.mp hp' with rfl | q
      · exact hz
      · exact hp p q⟩
theorem ZW : ∀ {ps : List Str}, (∀ p ∈ ps, okT p ∧ p.length ≤ 60) → (ps.map (·.length)).sum ≤ 60 * ps.length
  | [], _ => Nat.le_refl _
  | p :: ps, h => by
    have h1 := (h p List.mem_cons_self).2
    have h2 := ZW fun q hq => h q (List.mem_cons_of_mem _ hq)
    simp only [List.map_cons, List.sum_cons, List.length_cons]
    omega
end L2
namespace L2
open PySem PySem.Spec PyProof.Rows
section
variable {X : Cx} {K : PySem.W.Frag}
noncomputable def jo (C : TTW) (TB : TSW) : TSW := fun D ρ O => ∃ Pv : Nat → WS → OM → Prop, (∃ m, Pv m ρ O) ∧ ∀ m ρ O, Pv m ρ O →
  C ρ O fun b O1 => if b = true then TB { D with nx := fun ρ' O' => ∃ m', m' < m ∧ Pv m' ρ' O', ct := fun ρ' O' => ∃ m', m' < m ∧ Pv m' ρ' O', bk := D.nx } ρ O1 else D.nx ρ O1
theorem ZX {c : TT} {tb : TS} {C : TTW} {TB : TSW} (hc : yi K c C) (hb : RefS K tb TB) : RefS K (Zc c tb) (jo C TB) := by
  intro Γ O H ρ σ D DW S r hT e
  obtain ⟨Pv, ⟨m0, p0⟩, turn⟩ := hT
  refine ⟨fun m σ' H' => ∃ Γ' O' ρ', Le Γ Γ' ∧ Sim K Γ' O' H' ∧ relR K Γ' ρ' σ' ∧ Pv m ρ' O', ⟨m0, Γ, O, ρ, Le.refl _, S, r, p0⟩, ?_⟩
  rintro m σ' H' ⟨Γ', O', ρ', l', S', r', p'⟩
  refine hc _ _ _ _ _ S' r' _ _ (turn m ρ' O' p') fun Γ1 O1 H1 b l1 S1 h1 => ?_
  cases b with
  | true =>
    rw [if_pos rfl] at h1 ⊢
    refine ⟨fun σ2 H2 => ∃ Γ2 O2 ρ2, Le Γ Γ2 ∧ Sim K Γ2 O2 H2 ∧ relR K Γ2 ρ2 σ2 ∧ ∃ m', m' < m ∧ Pv m' ρ2 O2, fun σ2 H2 ⟨Γ2, O2, ρ2, l2, S2, r2, m', hm, p2⟩ => ⟨m', hm, Γ2, O2, ρ2, l2, S2, r2, p2⟩, ?_⟩
    have l01 := l'.trans l1
    exact hb _ _ _ _ _ _ _ S1 (r'.mono l1) h1 ⟨fun Γ4 O4 H4 ρ4 σ4 l4 S4 r4 h4 => ⟨Γ4, O4, ρ4, l01.trans l4, S4, r4, h4⟩, fun Γ4 O4 H4 w v l4 => e.rt _ _ _ _ _ (l01.trans l4), fun Γ4 O4 H4 ρ4 σ4 l4 => e.nx _ _ _ _ _ (l01.trans l4), fun Γ4 O4 H4 ρ4 σ4 l4 S4 r4 h4 => ⟨Γ4, O4, ρ4, l01.trans l4, S4, r4, h4⟩⟩
  | false =>
    rw [if_neg (by decide)] at h1 ⊢
    exact e.nx _ _ _ _ _ (l'.trans l1) S1 (r'.mono l1) h1
theorem j7 {C : TTW} {TB : TSW} {D : EndsW} {ρ : WS} {O : OM} (Pv : Nat → WS → OM → Prop) (m : Nat) (h0 : Pv m ρ O)
    (hs : ∀ m ρ O, Pv m ρ O → ∀ R : WS → OM → Prop, (∀ m' ρ' O', m' < m → Pv m' ρ' O' → R ρ' O') → C ρ O fun b O1 => if b = true then TB { D with nx := R, ct := R, bk := D.nx } ρ O1 else D.nx ρ O1) : jo C TB D ρ O :=
  ⟨Pv, ⟨m, h0⟩, fun m ρ O p => hs m ρ O p _ fun m' ρ' O' hm hp => ⟨m', hm, hp⟩⟩
noncomputable def X7 (K : PySem.W.Frag) : R2 := Yv K
theorem Ud (hK : X.K = K) : OpR X (binaryOp .Add) (X7 K) := Zu hK
noncomputable def X8 : R2W := fun x y O R => ∃ ws us, zr O x = some ws ∧ zr O y = some us ∧ ws.length + us.length ≤ 1000000 ∧ ∀ p, O p = none → R (.own p) (updO O p (.lst (ws ++ us)))
theorem QS : RefR K (X7 K) X8 := by
  rintro Γ O H x y v u S rx ry Q R ⟨ws, us, e1, e2, hl, h⟩ k
  obtain ⟨a, vs, rfl, q1, q2⟩ := zJ S rx e1
  obtain ⟨b, zs, rfl, p1, p2⟩ := zJ S ry e2
  refine ⟨a, b, vs, zs, rfl, rfl, q1, p1, by rw [← Paired.length q2, ← Paired.length p2, sizeLine_eq]; omega, fun p hp => ?_⟩
  obtain ⟨hO, S'⟩ := jS S (Paired.appP q2 p2) hp
  exact k _ _ _ _ _ (Le.refl _) S' xL (h p hO)
noncomputable def frz (w : W) (O : OM) : Option (PyData × OM) := match w with
  | .d x => some (x, O)
  | .own a => match O a with
    | some (.lst ws) => (zU ws).map fun ds => (.list ds, del O a)
    | _ => none
  | _ => none
noncomputable def frzs : List W → OM → Option (List PyData × OM)
  | [], O => some ([], O)
  | w :: ws, O => match frz w O with
    | some (d, O1) => (frzs ws O1).map fun q => (d :: q.1, q.2)
    | none => none
theorem Ue {Γ : Gh} {O O1 : OM} {H : Hp} {w : W} {v : V} {d : PyData} (S : Sim K Γ O H) (r : relW K Γ w v) (e : frz w O = some (d, O1)) : ∃ Γ', Le Γ Γ' ∧ Sim K Γ' O1 H ∧ relW K Γ' (.d d) v := by
  cases w with
  | d x => cases e; exact ⟨Γ, Le.refl _, S, r⟩
  | row _ _ => cases e
  | own a =>
    simp only [frz] at e
    split at e
    · rename_i ws ho
      cases hd : zU ws with
      | none => rw [hd] at e; cases e
      | some ds =>
        rw [hd] at e
        cases e
        rw [z9 hd] at ho
        obtain ⟨Γ', l, S', r'⟩ := S.freeze ho
        cases (show v = .ref a from r)
        exact ⟨Γ', l, S', r'⟩
    · cases e
theorem jp : ∀ {ws : List W} {vs : List V} {Γ : Gh} {O O1 : OM} {H : Hp} {ds : List PyData}, Sim K Γ O H → relWs K Γ ws vs → frzs ws O = some (ds, O1) → ∃ Γ', Le Γ Γ' ∧ Sim K Γ' O1 H ∧ Reps K Γ'.Z ds vs
  | [], _, Γ, O, O1, H, ds, S, r, e => by
    cases r
    cases e
    exact ⟨Γ, Le.refl _, S, rfl⟩
  | w :: ws, _, Γ, O, O1, H, ds, S, r, e => by
    cases r with
    | cons rx t =>
      simp only [frzs] at e
      split at e
      · rename_i d O2 e1
        obtain ⟨Γ1, l1, S1, r1⟩ := Ue S rx e1
        cases e2 : frzs ws O2 with
        | none => rw [e2] at e; cases e
        | some q =>
          rw [e2] at e
          cases e
          obtain ⟨Γ2, l2, S2, r2⟩ := jp S1 (Paired.mapP t fun _ _ z => z.mono l1) e2
          exact ⟨Γ2, l1.trans l2, S2, _, _, rfl, Rep.same l2.z _ _ r1, r2⟩
      · cases e
noncomputable def X9 (t : TA) : TE := kq t
theorem j8 {es : List Expr} {t : TA} {pos : Pos} {k : Nat} (h : QA X es t) : PE X (.Tuple es k pos) (X9 t) := Zn h.pa
noncomputable def Va (T : TAW) : TEW := fun ρ O R => T ρ O fun ws O1 => ∃ ds O2, frzs ws O1 = some (ds, O2) ∧ ds.length ≤ 1000 ∧ R (.d (.tuple ds)) O2
theorem Xh {t : TA} {T : TAW} (h : yp K t T) : zj K (X9 t) (Va T) := by
  intro Γ O H ρ σ S r0 Q R hT k
  refine h Γ O H ρ σ S r0 _ _ hT fun Γ1 O1 H1 ws vs l1 S1 rs h1 => ?_
  obtain ⟨ds, O2, e, hl, h1⟩ := h1
  obtain ⟨Γ2, l2, S2, r2⟩ := jp S1 rs e
  refine ⟨by rw [← Reps.length r2]; exact vH hl, fun p hp => ?_⟩
  obtain ⟨Γ', l, S', r'⟩ := um S2 r2 hp
  exact k _ _ _ _ _ ((l1.trans l2).trans l) S' r' h1
noncomputable def inS (j i : Str) : Bool := !(Builtin.Str.occurrences j i 0 j.length 1).isEmpty
noncomputable def QT : R2W := fun x y O R => ∃ i j, x = .d (.str i) ∧ y = .d (.str j) ∧ R (.d (.bool (inS j i))) O
theorem Jq : RefR K (fun x y H Q => ∃ i j, x = .str i ∧ y = .str j ∧ Q (.bl (!(Builtin.Str.occurrences j i 0 j.length 1).isEmpty)) H) QT := by
  rintro Γ O H x y v u S rx ry Q R ⟨i, j, rfl, rfl, h⟩ k
  exact ⟨i, j, rx, ry, k _ _ _ _ _ (Le.refl _) S ya h⟩
noncomputable def ZY : V → List V → Hp → VK → Prop := fun x xs H Q => ∃ z, x = .str z ∧ xs = [] ∧ Builtin.Str.tooLong (Txt.upper z).length = false ∧ Q (.str (Txt.upper z)) H
theorem Xi : MtR X "str.upper" ZY := by
  intro pins s σ H x xs v us Q I rx r h
  obtain ⟨z, rfl, rfl, hf, q⟩ := h
  cases r
  obtain ⟨t', rfl⟩ := rx
  exact SC.upper hf ⟨.str _, H, I.tok _, ⟨_, rfl⟩, q⟩
noncomputable def ZZ : W → List W → OM → WK → Prop := fun x xs O R => ∃ z, x = .d (.str z) ∧ xs = [] ∧ Builtin.Str.tooLong (Txt.upper z).length = false ∧ R (.d (.str (Txt.upper z))) O
theorem Uf {T : String} : RefM K T ZY ZZ := by
  rintro Γ O H x v xs vs S rx rs Q R ⟨z, rfl, rfl, hf, h⟩ k
  cases rs
  exact ⟨z, rx, rfl, hf, k _ _ _ _ _ (Le.refl _) S y9 h⟩
end
end L2
namespace L2
open PySem PySem.Spec PyProof.Rows
theorem k6 {T1 T2 U : TSW} {D : EndsW} {ρ : WS} {O : OM} (J : WS → OM → Prop) (ht : ∀ R : WS → OM → Prop, (∀ ρ' O', J ρ' O' → R ρ' O') → yU T1 T2 { D with nx := R } ρ O) (hu : ∀ ρ' O', J ρ' O' → U D ρ' O') : yU T1 (yU T2 U) D ρ O := ht (U D) hu
end L2
namespace L2
open PySem PySem.Spec PyProof.Rows
noncomputable def jq (C : Addr) : SpW := fun ws O R => ∃ x dx p b z, ws = [.own x, .d (.str z)] ∧ RdAt C O x dx p b ∧ okG b ∧ z.cps.all (· < 128) = true ∧ b.length + z.length ≤ 90000 ∧ ∀ q p' O', O q = none → O' q = some (.lst ((rdF b z.cps.toList).2.map .d)) → RdAt C O' x dx p' (rdF b z.cps.toList).1 → Ho O O' x p → (p' = p ∨ O p' = none) → q ≠ p' → R (.own q) O'
noncomputable def jr : SpW := fun ws O R => ∃ z, ws = [.d (.str z)] ∧ z.length ≤ 90000 ∧ kU z ∧ ∀ O', Old O O' → R (.d (ye z)) O'
noncomputable def jt : SpW := fun ws O R => ∃ z, ws = [.d (.str z)] ∧ okT z ∧ z.length ≤ 5000 ∧ ∀ O', Old O O' → R (.d (.tuple [.list (rdF [] z.cps.toList).2, .str ⟨(rdF [] z.cps.toList).1.toArray⟩])) O'
noncomputable def okO (b : List Nat) : Prop := b = [] ∨ ∃ t, b = 126 :: t ∧ ∀ c ∈ t, c = 59 ∨ (48 ≤ c ∧ c ≤ 57)
theorem Ug {b : List Nat} (h : okO b) (c : Nat) : okO (rdS b c).1 := by
  unfold rdS
  split
  · exact .inl rfl
  · split
    · rename_i q
      rcases h with rfl | ⟨t, rfl, h⟩
      · exact absurd rfl q.1
      · refine .inr ⟨t ++ [c], rfl, fun d hd => ?_⟩
        rcases List.mem_append.mp hd with z | z
        · exact h d z
        · cases List.mem_singleton.mp z
          rcases q.2 with y | y
          · exact .inr y
          · exact .inl y
    · split
      · exact .inl rfl
      · exact .inr ⟨[], rfl, fun d hd => by cases hd⟩
theorem j9 : ∀ {cs b : List Nat}, okO b → okO (rdF b cs).1
  | [], b, h => h
  | c :: cs, b, h => j9 (cs := cs) (Ug h c)
theorem Uh {c : Nat} (h : c = 59 ∨ (48 ≤ c ∧ c ≤ 57)) : ¬yk c := fun z => by rcases z with z | z <;> omega
theorem ju : ∀ {t b : List Nat}, b ≠ [] → (∀ c ∈ t, c = 59 ∨ (48 ≤ c ∧ c ≤ 57)) → rdF b t = (b ++ t, [])
  | [], b, _, _ => by simp [rdF]
  | c :: t, b, hb, h => by
    have hc := h c List.mem_cons_self
    have e : rdS b c = (b ++ [c], []) := by
      unfold rdS
      rw [if_neg (fun z => Uh hc z.2), if_pos ⟨hb, hc.symm⟩]
    have ih := ju (t := t) (b := b ++ [c]) (by simp) fun d hd => h d (List.mem_cons_of_mem _ hd)
    simp [rdF, e, ih]
theorem xX {t : List Nat} (h : ∀ c ∈ t, c = 59 ∨ (48 ≤ c ∧ c ≤ 57)) : rdF [] (126 :: t) = (126 :: t, []) := by
  have e : rdS [] 126 = ([126], []) := by
    unfold rdS
    rw [if_neg (fun z => z.1 rfl), if_neg (fun z => z.1 rfl), if_neg (by simp)]
  have := ju (t := t) (b := [126]) (by simp) h
  simp [rdF, e, this]
theorem Xj {b : List Nat} (h : okO b) : rdF [] b = (b, []) := by
  rcases h with rfl | ⟨t, rfl, h⟩
  · rfl
  · exact xX h
theorem QU {b cs : List Nat} (h : okO b) : rdF [] (b ++ cs) = rdF b cs := by
  rw [xN, Xj h]
  simp
theorem Z0 {c : Nat} {cs : List Nat} (h : c ≠ 126) : rdF [] (c :: cs) = ((rdF [] cs).1, zv c :: (rdF [] cs).2) := by
  have e : rdS [] c = ([], [zv c]) := by
    unfold rdS
    rw [if_neg (fun z => z.1 rfl), if_neg (fun z => z.1 rfl), if_pos (.inl h)]
  simp [rdF, e]
theorem Ui {t cs : List Nat} {c : Nat} (h : ∀ c ∈ t, c = 59 ∨ (48 ≤ c ∧ c ≤ 57)) (hc : yk c) : rdF [] (126 :: t ++ c :: cs) = ((rdF [] cs).1, rwD (126 :: t) c ++ (rdF [] cs).2) := by
  have e : rdS (126 :: t) c = ([], rwD (126 :: t) c) := if_pos ⟨by simp, hc⟩
  rw [xN, xX h]
  simp [rdF, e]
theorem Z1 {cs : List Nat} : rdF [] (126 :: 126 :: cs) = ((rdF [] cs).1, zv 126 :: (rdF [] cs).2) := by
  have e1 : rdS [] 126 = ([126], []) := by
    unfold rdS
    rw [if_neg (fun z => z.1 rfl), if_neg (fun z => z.1 rfl), if_neg (by simp)]
  have e2 : rdS [126] 126 = ([], [zv 126]) := by
    unfold rdS
    rw [if_neg (fun z => by rcases z.2 with z | z <;> omega), if_neg (fun z => by rcases z.2 with z | z; exact absurd z.2 (by decide); omega), if_pos (.inr rfl)]
  simp [rdF, e1, e2]
theorem Uj {t cs : List Nat} {c : Nat} (h : ∀ c ∈ t, c = 59 ∨ (48 ≤ c ∧ c ≤ 57)) (h1 : ¬yk c) (h2 : ¬(zY c ∨ c = 59)) (h3 : ¬(c = 126 ∧ t = [])) : rdF [] (126 :: t ++ c :: cs) = rdF [] (c :: cs) := by
  rw [xN, xX h]
  have ea : rdS (126 :: t) c = if c ≠ 126 ∨ (126 :: t).length = 1 then ([], [zv c]) else ([126], []) := by
    unfold rdS
    rw [if_neg (fun z => h1 z.2), if_neg (fun z => h2 z.2)]
  have eb : rdS [] c = if c ≠ 126 ∨ ([] : List Nat).length = 1 then ([], [zv c]) else ([126], []) := by
    unfold rdS
    rw [if_neg (fun z => z.1 rfl), if_neg (fun z => z.1 rfl)]
  have e : rdS (126 :: t) c = rdS [] c := by
    rw [ea, eb]
    by_cases hc : c = 126
    · have ht : t ≠ [] := fun e => h3 ⟨hc, e⟩
      have n1 : ¬(c ≠ 126 ∨ (126 :: t).length = 1) := by
        rintro (z | z)
        · exact z hc
        · exact ht (List.length_eq_zero_iff.mp (by simpa using z))
      have n2 : ¬(c ≠ 126 ∨ ([] : List Nat).length = 1) := by
        rintro (z | z)
        · exact z hc
        · simp at z
      rw [if_neg n1, if_neg n2]
    · rw [if_pos (Or.inl hc), if_pos (Or.inl hc)]
  simp [rdF, e]
theorem Uk {c : Nat} (h : c < 128) : inS (Str.ofString "0123456789;") ⟨#[c]⟩ = decide (zY c ∨ c = 59) := by
  have : ∀ n : _root_.Fin 128, inS (Str.ofString "0123456789;") ⟨#[n.val]⟩ = decide (zY n.val ∨ n.val = 59) := by decide +kernel
  exact this ⟨c, h⟩
noncomputable def ym : Str := Str.ofString "abcdefghijklmnopqrstuvwxyz"
theorem jv : Builtin.Str.tooLong (Txt.upper ym).length = false ∧ (ym ++ Txt.upper ym).length = 52 ∧ ym.length + (Txt.upper ym).length ≤ 60 := by decide +kernel
theorem Ul {c : Nat} (h : c < 128) : inS (ym ++ Txt.upper ym) ⟨#[c]⟩ = decide (yk c) := by
  have : ∀ n : _root_.Fin 128, inS (ym ++ Txt.upper ym) ⟨#[n.val]⟩ = decide (yk n.val) := by decide +kernel
  exact this ⟨c, h⟩
end L2
namespace L2
open PySem PySem.Spec PyProof.Rows
theorem Z2 {C : TTW} {TB : TSW} {D : EndsW} {ρ : WS} {O : OM} (Pv : Nat → WS → OM → Prop) (J : WS → OM → Prop) (m : Nat) (h0 : Pv m ρ O)
    (hs : ∀ m ρ O, Pv m ρ O → ∀ R S : WS → OM → Prop, (∀ m' ρ' O', m' < m → Pv m' ρ' O' → R ρ' O') → (∀ ρ' O', J ρ' O' → S ρ' O') → C ρ O fun b O1 => if b = true then TB { D with nx := R, ct := R, bk := S } ρ O1 else S ρ O1)
    (hx : ∀ ρ' O', J ρ' O' → D.nx ρ' O') : jo C TB D ρ O :=
  j7 Pv m h0 fun m ρ O p R hR => hs m ρ O p R D.nx hR hx
theorem ka {O O' : OM} {a : Addr} (h : Old O O') (ha : O a = none) : Old O (del O' a) := h.del ha
theorem Z3 {L : List Nat} {a b c : Nat} (hab : a ≤ b) (e : L[b]? = some c) : (L.drop a).take (b + 1 - a) = (L.drop a).take (b - a) ++ [c] := by
  rw [show b + 1 - a = (b - a) + 1 by omega, List.take_succ, List.getElem?_drop, show a + (b - a) = b by omega, e]
  rfl
theorem vo {L : List Nat} {a c : Nat} (e : L[a]? = some c) : L.drop a = c :: L.drop (a + 1) := by
  obtain ⟨h, rfl⟩ := List.getElem?_eq_some_iff.mp e
  exact List.drop_eq_getElem_cons h
theorem Xk {L : List Nat} {a b c : Nat} (hab : a ≤ b) (e : L[b]? = some c) : L.drop a = (L.drop a).take (b - a) ++ c :: L.drop (b + 1) := by
  rw [← vo e]
  have : L.drop b = (L.drop a).drop (b - a) := by rw [List.drop_drop]; congr 1; omega
  rw [this, List.take_append_drop]
end L2
namespace L2
open PySem PySem.Spec PyProof.Rows
noncomputable def k7 (d : PyData) : Prop := (∃ w r, d = .tuple (.str w :: r) ∧ w ≠ Str.ofString "row") ∨ ∃ s ps, d = .tuple [.str (Str.ofString "row"), .str s, .tuple ps] ∧ ps.length ≤ 1000 ∧ ∀ x ∈ ps, x = .none ∨ ∃ n, x = .int n
theorem QV {b : List Nat} {c : Nat} : ∀ d ∈ (rdS b c).2, k7 d := by
  intro d hd
  have al : ∀ c, k7 (zv c) := fun c => by
    unfold zv
    split
    · exact .inl ⟨_, _, rfl, by decide +kernel⟩
    · split
      · exact .inl ⟨_, _, rfl, by decide +kernel⟩
      · exact .inl ⟨_, _, rfl, by decide +kernel⟩
  unfold rdS at hd
  split at hd
  · have hd' : d ∈ rwD b c := hd
    unfold rwD at hd'
    split at hd'
    · cases hd'
    · rename_i z
      cases List.mem_singleton.mp hd'
      rcases xW ⟨(b.drop 1).toArray⟩ with e | ⟨ds, e, q1, q2⟩
      · rw [e] at z; exact absurd rfl z
      · rw [e]; exact .inr ⟨_, _, rfl, q1, q2⟩
  · split at hd
    · cases hd
    · split at hd
      · cases List.mem_singleton.mp hd; exact al c
      · cases hd
theorem jw : ∀ {cs b : List Nat}, ∀ d ∈ (rdF b cs).2, k7 d
  | [], b => fun d hd => by cases hd
  | c :: cs, b => fun d hd => by
    rcases List.mem_append.mp (show d ∈ (rdS b c).2 ++ (rdF (rdS b c).1 cs).2 from hd) with z | z
    · exact QV d z
    · exact jw d z
noncomputable def Xl : SpW := fun ws O R => ∃ a ds, ws = [.own a, .d (.list ds)] ∧ O a = some (.lst (ds.map .d)) ∧ (∀ d ∈ ds, okI d) ∧ (∀ d ∈ ds, k7 d) ∧ R (.d (.bool true)) O
theorem xY {ds : List PyData} (h : ∀ d ∈ ds, okI d) : SeqAt.shaped (.list ds) = true ∧ PyData.eqv (.list ds) (.list ds) = true := by
  obtain ⟨q1, q2, q3⟩ := Xe h
  refine ⟨?_, q3⟩
  unfold SeqAt.shaped
  rw [Bool.and_eq_true]
  exact ⟨q1, decide_eq_true (by omega)⟩
structure Two (C : Addr) (O : OM) (xb db pb : Addr) (bb : List Nat) (xr dr pr : Addr) (br : List Nat) : Prop where
  b : RdAt C O xb db pb bb
  r : RdAt C O xr dr pr br
  nx : xb ≠ xr
  np : pb ≠ pr
section
variable {C : Addr} {O O' : OM} {xb db pb xr dr pr p' q : Addr} {bb br br' bb' : List Nat}
theorem Two.xp (h : Two C O xb db pb bb xr dr pr br) : xb ≠ pr ∧ xr ≠ pb := ⟨fun e => (by have := h.b.x; rw [e, h.r.p] at this; cases this), fun e => (by have := h.r.x; rw [e, h.b.p] at this; cases this)⟩
theorem Two.old (h : Two C O xb db pb bb xr dr pr br) (ho : Old O O') : Two C O' xb db pb bb xr dr pr br := ⟨h.b.old ho, h.r.old ho, h.nx, h.np⟩
theorem Two.readR (h : Two C O xb db pb bb xr dr pr br) (hr : RdAt C O' xr dr p' br') (ho : Ho O O' xr pr) (hp : p' = pr ∨ O p' = none) : Two C O' xb db pb bb xr dr p' br' := by
  have hx := h.xp
  refine ⟨⟨?_, ?_⟩, hr, h.nx, fun e => ?_⟩
  · rw [ho xb (by rw [h.b.x]; simp) h.nx hx.1]; exact h.b.x
  · rw [ho pb (by rw [h.b.p]; simp) (Ne.symm hx.2) h.np]; exact h.b.p
  · rcases hp with z | z
    · exact h.np (e.trans z)
    · rw [← e, h.b.p] at z; cases z
noncomputable def k8 (q xb pb xr pr : Addr) : Prop := q ≠ xb ∧ q ≠ pb ∧ q ≠ xr ∧ q ≠ pr
theorem Two.apart (h : Two C O xb db pb bb xr dr pr br) (hq : O q = none) : k8 q xb pb xr pr :=
  ⟨fun e => (by rw [e, h.b.x] at hq; cases hq), fun e => (by rw [e, h.b.p] at hq; cases hq), fun e => (by rw [e, h.r.x] at hq; cases hq), fun e => (by rw [e, h.r.p] at hq; cases hq)⟩
theorem Two.upd (h : Two C O xb db pb bb xr dr pr br) (hq : k8 q xb pb xr pr) (o : OO) : Two C (updO O q o) xb db pb bb xr dr pr br := by
  obtain ⟨q1, q2, q3, q4⟩ := hq
  exact ⟨⟨by rw [ze (Ne.symm q1)]; exact h.b.x, by rw [ze (Ne.symm q2)]; exact h.b.p⟩, ⟨by rw [ze (Ne.symm q3)]; exact h.r.x, by rw [ze (Ne.symm q4)]; exact h.r.p⟩, h.nx, h.np⟩
theorem Xm {x dx p : Addr} (h : RdAt C O xb db pb bb) (hx : O x = none) (hp : updO O x (.ins C dx []) p = none) (hr : RdAt C O' x dx p []) (ho : ∀ a, a ≠ x → a ≠ p → O' a = updO O x (.ins C dx []) a) : Two C O' xb db pb bb x dx p [] := by
  obtain ⟨a1, a2, _⟩ := Uc hx hp ho
  refine ⟨h.old a1, hr, fun e => ?_, fun e => ?_⟩
  · have := h.x; rw [e, hx] at this; cases this
  · have := h.p; rw [e, a2] at this; cases this
end
theorem Xn : rdF [] (Str.ofString "a~1;2").cps.toList = ([126, 49, 59, 50], [zv 97]) := by
  have : (Str.ofString "a~1;2").cps.toList = [97, 126, 49, 59, 50] := by decide +kernel
  rw [this]
  rfl
theorem Vb : rdF [126, 49, 59, 50] (Str.ofString "3;g").cps.toList = ([], [.tuple [.str (Str.ofString "row"), .str (sgS 103), .tuple [.int 1, .int 23, .none]]]) := by
  have : (Str.ofString "3;g").cps.toList = [51, 59, 103] := by decide +kernel
  rw [this]
  rfl
end L2
namespace Att
open PySem PySem.W PySem.Calls PyProof.Rows
theorem Xo {i : Int} (x : (WData.int i).layable = true) : L2.Bt 1048576 i := by
  have h := (layableW_iff.mp x).2.2
  simp only [WData.weight] at h
  unfold L2.Bt
  by_cases hi : i = 0
  · subst hi
    exact Nat.two_pow_pos _
  · have hn : i.natAbs ≠ 0 := by omega
    simp only [beq_iff_eq, hi, if_false] at h
    exact (Nat.log2_lt hn).mp (by
      have e : (2 : Nat) ^ 20 = 1048576 := by decide
      omega)
theorem attB {l : OpenLaw} {n : Nat} {q : Program} {loose : List Str} {XP : (Str → Option Value) → Heap → Prop} {YP : World → Heap → Prop} {d : DefRec}
    (hn : l.most = some n) (hdf : d.params.defaults = [])
    (call : ∀ (w : World) (s₀ s₁ : Shared) (mg mb : Str → Option Value) (fa a : Addr) (vs : List Value) (ns : List Int), Ground q loose [] XP w s₀ mg mb s₁.heap → YP w s₁.heap → mg d.name = some (.ref fa) →
      s₁.heap.get? a = some { cls := .type "list", data := .seq vs.toArray } → IntsAre vs ns → ns.length ≤ n → (∀ i ∈ ns, L2.Bt 1048576 i) → s₁.gens = #[] →
      codeAny (model l.prog w) callerA (.call (.ref fa) ⟨[.ref a], []⟩) (fun r s' => r = .ok (.ret (.bool true)) ∧ OldK s₁.heap s'.heap ∧ s'.os = s₁.os ∧ AllBare s'.gens) s₁) :
    WalkO q loose XP YP l.row.toRowW d [] (fun f vs => PySem.call f vs) := by
  intro w s₀ s₁ mg mb G Y fa o pm cd doc dV kV ho hd hcd hD hm hg args vals as hp hy hr hw hl
  cases Dflts.none hD hdf
  cases Dflts.noKw hD
  obtain ⟨a, vs, ns, e1, e2, hb, hi, hk⟩ := Zs hn hp hw
  subst e1
  subst e2
  have bits : ∀ i ∈ ns, L2.Bt 1048576 i := fun i h => Xo (layableW_item (layableW_arg hy _ List.mem_cons_self) _ (List.mem_map.2 ⟨i, h, rfl⟩))
  refine enter_call (codeAny_mono (call w s₀ s₁ mg mb fa a vs ns G Y hm hb hi hk bits hg) ?_)
  rintro r s' ⟨rfl, c2, c3, c4⟩
  refine ⟨.inl ⟨.bool true, .bool true, [], rfl, fun _ => rfl, .bool true, Zt l _, fun _ => ⟨List.Pairwise.nil, fun _ z => ?_⟩⟩, c2, c3, c4⟩
  cases z
end Att
namespace L2
open PySem PySem.Spec PyProof.Rows
theorem walkW {l : PySem.W.OpenLaw} {n k : Nat} {q : Program} {loose : List Str} {XP : (Str → Option Value) → Heap → Prop} {YP : World → Heap → Prop} {d : DefRec} {K : Params → PySem.W.Frag} {x : Str} {s : SpW} (hn : l.most = some n) (hn2 : n ≤ 1000) (hdf : d.params.defaults = []) (hr : Room k callerA)
    (hY : ∀ (w : World) (h : Heap), YP w h → (K w.params).In h)
    (F : ∀ (w : World) (mg : Str → Option Value) (fa : Addr) (h : Heap), (K w.params).In h → h.Ns mainGlobals mg → mg d.name = some (.ref fa) →
      ∃ fd : FuncData, (∀ (s : Shared) (u : Value), BindsTo s fd ⟨[u], []⟩ [(x, u)]) ∧ ∀ base : Heap, (K w.params).In base → base.Ns mainGlobals mg → FnOk l.prog w (K w.params) mg base CX0 k fa fd [x] (zc (K w.params) s))
    (hs : ∀ (ns : List Int) (O : OM) (R : WK), ns.length ≤ n → (∀ i ∈ ns, Bt 1048576 i) → (∀ O', R (.d (.bool true)) O') → s [.d (.list (ns.map .int))] O R) :
    PySem.W.WalkO q loose XP YP l.row.toRowW d [] (fun f vs => PySem.call f vs) := by
  refine Att.attB hn hdf fun w s₀ s₁ mg mb fa a vs ns G Y hm hb hi hk bits hg => ?_
  obtain ⟨fd, e1, e2⟩ := F w mg fa _ (hY w _ Y) G.T.g hm
  refine Yo (hY w _ Y) G.T.g G.T.b G.T.builtins G.T.nolimit hg hb hi (Nat.le_trans hk (Nat.le_trans hn2 (by decide))) hr e2 e1 (fun H hO hS => ?_) fun _ _ _ z => z
  refine ⟨⟨H, fun _ => none, fun _ => none⟩, fun _ => none, [.d (.list (ns.map .int))], fun w _ => w = .d (.bool true), ?_, .cons ⟨a, _, rfl, hS, qg ns⟩ .nil, hs ns _ _ hk bits fun _ => rfl, ?_⟩
  · exact ⟨Same.refl _, fun _ _ e => (by cases e), fun _ _ e => (by cases e), fun _ _ e => (by cases e), fun _ _ e => (by cases e), fun _ _ e => (by cases e), fun _ _ e => (by cases e), fun _ _ _ _ _ _ _ e => (by cases e)⟩
  · rintro Γ' O' H' w v _ _ r rfl
    exact r
end L2
namespace K06
open PySem L2
local macro_rules | `(tactic| walk_at "ref") => `(tactic| repeat' (first
  | with_reducible exact Qp
  | with_reducible exact VA
  | with_reducible exact VB
  | with_reducible exact UV
  | with_reducible exact VC
  | with_reducible apply UW
  | with_reducible exact Jf
  | with_reducible exact Jg
  | with_reducible exact Q4
  | with_reducible exact Q5
  | with_reducible exact Qq
  | with_reducible exact VY
  | with_reducible exact Qr
  | with_reducible exact Q9
  | with_reducible exact Ja
  | with_reducible exact QS
  | with_reducible exact QG
  | with_reducible exact Jq
  | with_reducible exact Ql
  | with_reducible exact QH
  | with_reducible exact Jj
  | exact Je (fun _ _ => rfl)
  | exact JF (fun _ _ => rfl)
  | with_reducible apply Y0
  | with_reducible apply Yz
  | with_reducible apply VF
  | with_reducible apply V1
  | with_reducible apply U4
  | with_reducible apply jV
  | with_reducible apply Jh
  | with_reducible apply VD
  | with_reducible apply U2
  | with_reducible apply VE
  | with_reducible apply YY
  | with_reducible exact VX
  | with_reducible exact VH
  | with_reducible apply V6
  | with_reducible apply VT
  | with_reducible apply V4
  | with_reducible apply YC
  | with_reducible exact Qj rfl
  | with_reducible apply Xh
  | with_reducible apply VI
  | with_reducible apply VJ
  | with_reducible apply YS
  | with_reducible apply ZD
  | with_reducible apply YF
  | with_reducible apply YE
  | with_reducible apply U7
  | with_reducible exact Qm
  | with_reducible exact U8
  | with_reducible exact Qn
  | with_reducible exact U9
  | with_reducible exact Ji
  | with_reducible exact Qz
  | with_reducible apply V5
  | with_reducible apply VU
  | with_reducible exact kK
  | with_reducible apply YV
  | with_reducible apply Qg
  | with_reducible apply Ua
  | with_reducible apply Qs
  | with_reducible apply Qh
  | with_reducible apply VR
  | with_reducible exact QN
  | with_reducible exact Qy
  | with_reducible exact Y8
  | with_reducible exact V2
  | with_reducible exact V3
  | with_reducible exact Uf
  | with_reducible apply VM
  | with_reducible exact YJ
  | with_reducible exact YK
  | with_reducible apply YL
  | with_reducible apply VN
  | with_reducible apply VO
  | with_reducible apply VP
  | with_reducible exact YN
  | with_reducible apply YQ
  | with_reducible exact YO
  | with_reducible apply Zy
  | with_reducible apply VZ
  | with_reducible apply VQ
  | with_reducible apply ZX
  | with_reducible apply Zz
  | with_reducible apply Y7
  | with_reducible apply YR
  | with_reducible apply ZA
  | with_reducible apply ZB))
local macro_rules | `(tactic| walk_at "wd") => `(tactic| ((try dsimp only [kL, List.getElem?_cons_zero, List.getElem?_cons_succ, wC, wOp, vI0, vI, wUn, vU, vEq, vNe, kM, qG, qH, jb, Yx, wOr, Yy, wIf, YB, kC, wCs, qF, wCB, vI2, Y1, kN, ZE, ZF, yU, kE, kG, YH, Jc, YI, YM, ur, ofV, kJ, List.set, List.map, yQ, List.append, List.nil_append, List.cons_append]); try simp [kL, wC, wOp, vI0, vI, vU, vEq, vNe, UX, UY, kM, qG, YZ, U0, U1, X2, X8, Va, QT, ZZ, XV, jb, XF, U3, Qx, X3, QD, jW, QF, ZO, XZ, ZL, ZM, X0, X1, ZN, QB, wIf, qH, Yx, wOr, Yy, YA, YB, kC, wCs, U5, U6, XT, qF, XH, XG, wCB, YG, XI, q5, vI2, XJ, Qk, jU, XU, Y1, ZE, wBM, Qi, X6, yU, kE, XL, kG, YH, YI, YM, ur, Qb, Qa, XM, kN, ZF, Qf, XN, Qd, XO, XQ, wLc, QR, YU, kH, yc, yQ, ofV, vOf, scD, vT, vG, JC, yh, kJ, v1, ul, tyD, isI, zU, and_assoc, YU, vL, xn, V7, zi, Zx]))
noncomputable def top (i : Nat) : Stmt := PySem.Challenge.pw_signscreen_k06_signs_read.main.body.getD i (.Pass ⟨0, 0, 0, 0⟩)
local macro_rules | `(tactic| walk_at "sc") => `(tactic| exact ⟨rfl, rfl, rfl, by decide +kernel, rfl, by decide +kernel, by decide +kernel⟩)
noncomputable abbrev xC : Stmt := top 4
theorem vp : FnScope ["sign"] ["sign"] (defScope xC) := by walk_at "sc"
noncomputable abbrev xD : Stmt := top 5
theorem vq : FnScope ["sign"] ["sign"] (defScope xD) := by walk_at "sc"
noncomputable abbrev ua : Stmt := top 6
theorem qq : FnScope ["body", "parts"] ["body"] (defScope ua) := by walk_at "sc"
noncomputable abbrev xq : Stmt := top 7
theorem xZ : FnScope ["sign"] ["sign"] (defScope xq) := by walk_at "sc"
noncomputable abbrev zw : Stmt := xJ (top 8) 0
theorem yR : FnScope ["self"] ["self"] (defScope zw) := by walk_at "sc"
noncomputable abbrev zx : Stmt := xJ (top 8) 1
theorem yS : FnScope ["self"] ["self"] (defScope zx) := by walk_at "sc"
noncomputable abbrev zG : Stmt := xJ (top 8) 2
theorem xQ : FnScope ["self", "text", "found", "sign"] ["self", "text"] (defScope zG) := by walk_at "sc"
noncomputable abbrev zt : Stmt := xJ (top 8) 3
theorem yE : FnScope ["self", "sign", "stood_alone"] ["self", "sign"] (defScope zt) := by walk_at "sc"
noncomputable abbrev zy : Stmt := xJ (top 8) 4
theorem yW : FnScope ["self", "letter", "numbers"] ["self", "letter"] (defScope zy) := by walk_at "sc"
noncomputable abbrev yJ : Stmt := top 10
theorem uB : FnScope ["_law_script", "_law_k"] ["_law_script", "_law_k"] (defScope yJ) := by walk_at "sc"
noncomputable abbrev xt : Stmt := top 11
theorem x0 : FnScope ["_law_cell", "_law_k", "_law_number"] ["_law_cell", "_law_k"] (defScope xt) := by walk_at "sc"
noncomputable abbrev yK : Stmt := top 12
theorem xy : FnScope ["_law_cell", "_law_many"] ["_law_cell", "_law_many"] (defScope yK) := by walk_at "sc"
noncomputable abbrev xE : Stmt := top 13
theorem vt : FnScope ["_law_cell", "_law_number", "_law_many", "_law_words", "_law_k", "_law_more"] ["_law_cell"] (defScope xE) := by walk_at "sc"
noncomputable abbrev yD : Stmt := top 14
theorem x3 : FnScope ["_law_cell", "_law_number", "_law_signs", "_law_sign", "_law_letter", "_law_body_here", "_law_some"] ["_law_cell"] (defScope yD) := by walk_at "sc"
noncomputable abbrev yV : Stmt := top 15
theorem xR : FnScope ["_law_body_here", "_law_numbers", "_law_word", "_law_sign", "_law_number", "_law_figure"] ["_law_body_here"] (defScope yV) := by walk_at "sc"
noncomputable abbrev yL : Stmt := top 16
theorem xz : FnScope ["_law_sign"] ["_law_sign"] (defScope yL) := by walk_at "sc"
noncomputable abbrev xF : Stmt := top 17
theorem vv : FnScope ["_law_text", "_law_letters", "_law_found", "_law_at", "_law_behind", "_law_numbers"] ["_law_text"] (defScope xF) := by walk_at "sc"
noncomputable abbrev vw : Stmt := top 18
theorem uC : FnScope ["_law_found", "_law_due", "_law_one"] ["_law_found", "_law_due"] (defScope vw) := by walk_at "sc"
noncomputable abbrev k9 : Stmt := top 19
theorem Z4 : FnScope ["_law_script", "_law_beside", "_law_reader", "_law_pieces", "_law_text", "_law_due", "_law_left", "_law_found", "_law_more"] ["_law_script"] (defScope k9) := by walk_at "sc"
structure Txt (K : PySem.W.Frag) (mg : Str → Option Value) (C : Addr) : Prop where
  n_len : mg "len" = none
  n_range : mg "range" = none
  n_int : mg "int" = none
  n_any : mg "any" = none
  n_tuple : mg "tuple" = none
  n_enumerate : mg "enumerate" = none
  n_isinstance : mg "isinstance" = none
  n_list : mg "list" = none
  n_bool : mg "bool" = none
  g_MOST_NUMBERS : ∃ t, mg "MOST_NUMBERS" = some (.int 6 t)
  g_MOST_FIGURES : ∃ t, mg "MOST_FIGURES" = some (.int 3 t)
  g_OPENING : ∃ t, mg "OPENING" = some (.str "~" t)
  mgC : mg "Reader" = some (.ref C)
  st : Rdr K C
section
variable {P : Program} {w : World} {K : PySem.W.Frag} {mg : Str → Option Value} {base : Heap} {f : Addr} {fd : FuncData} {C : Addr}
theorem uX (F : Fun K "_law_cell_at" "_law_cell_at" yJ f fd) (T : Txt K mg C) : FnOk P w K mg base CX0 1 f fd ["_law_script", "_law_k"] (zc K vL) := by
  apply F.okV uB (by rintro _ _ _ ⟨n, a, rfl, _⟩; rfl) (fun cdv A outer sh H E hr => (zb (zL (zl qA (pv 1) (zE (uu (K := K) rfl) (by rfl) T.n_len (by rfl) (QA.pa (qc (pv 0) qn))) (zp _)) (zg (zn (zQ (vD (K := K) rfl) (pv 0) (pv 1) (fun _ _ => rfl)))) zB)
      (zg (zn zf))))
  · walk_at "ref"
  rintro _ O R ⟨ns, k, rfl, h⟩
  walk_at "wd"
  simp [uM, yh, zr]
  split
  · rename_i hk
    refine ⟨_, y8 (by rw [List.getElem?_map, List.getElem?_eq_getElem hk]; rfl), .inl ?_⟩
    rw [List.getD_eq_getElem?_getD, List.getElem?_eq_getElem hk] at h
    exact h
  · rename_i hk
    rw [List.getD_eq_getElem?_getD, List.getElem?_eq_none (by omega)] at h
    exact .inl h
theorem jx (F : Fun K "_law_mixed" "_law_mixed" xt f fd) (T : Txt K mg C) : FnOk P w K mg base CX0 1 f fd ["_law_cell", "_law_k"] (zc K xn) := by
  have nd := x0.nd
  apply F.okV x0 (by rintro _ _ _ ⟨n, a, rfl, _⟩; rfl) (fun cdv A outer sh H E hr => (zb (zm (i := 2) nd rfl (Or.inl rfl) (zk yr (zk yr (pv 0) (zk xM zf (pv 1))) zf))
      (zg (zn (zk yt (zk xM (zk yt (zk xM (pv 2) (pv 2)) zf) zf) zf)))))
  · walk_at "ref"
  rintro _ O R ⟨c, k, rfl, h0, h1, hb, h⟩
  walk_at "wd"
  have b1 : Bt 1048602 (c + 7919 * k + 3) := (Bt.add (Bt.add hb ((Bt.small (a := 7919 * k) (by omega) (by omega)).mono (by decide))) ((Bt.small (a := 3) (by omega) (by omega)).mono (by decide)))
  exact ⟨mulL (by omega) (by omega), b1.mul b1 (by decide), mulR (by omega) (by omega), .inl h⟩
theorem Z5 (F : Fun K "parted" "parted" ua f fd) (T : Txt K mg C) : FnOk P w K mg base CX0 1 f fd ["body"] (zc K jj) := by
  have nd := qq.nd
  apply F.okV qq (by rintro _ _ _ ⟨z, rfl, _⟩; rfl) (fun cdv A outer sh H E hr => (zb (zm (i := 1) nd rfl (Or.inl rfl) (zW (K := K) rfl PySem.F.plainAttrs_str PySem.F.slot_str_split PySem.F.type_str_split Y4 (pv 0) (QA.pa (qc zd qn))))
      (zb (zL (PW.pt (yM (zl ki (zE (uu (K := K) rfl) (by rfl) T.n_len (by rfl) (QA.pa (qc (pv 1) qn))) (XD rfl T.g_MOST_NUMBERS) (zp _)) (yA (yq (zE (Qw (K := K) rfl rfl) (by rfl) T.n_any (by rfl) (QA.pa (qc (qD (qU (N := ["part"]) (n := 1) (js := [])) rfl (v8 (K := K) rfl (pv 1)) (fun _ _ _ _ => (zI (i := 0) (show List.Nodup (["part"] : List Str) by decide +kernel) rfl (Or.inl rfl))) (fun _ _ _ _ => vB) (fun _ _ _ _ => (xH ki (zE zZ (by rfl) T.n_len (by rfl) (QA.pa (qc (pv 0) qn))) (XD rfl T.g_MOST_FIGURES) (zp _)))) qn))))))) (zg (zn yz)) zB)
      (zg (zn (xw (ZC (K := K) rfl) (by rfl) T.n_tuple rfl (QA.pa (qc (qD (qU (N := ["part"]) (n := 1) (js := [])) rfl (v8 (K := K) rfl (pv 1)) (fun _ _ _ _ => (zI (i := 0) (show List.Nodup (["part"] : List Str) by decide +kernel) rfl (Or.inl rfl))) (fun _ _ _ _ => vB) (fun _ _ _ _ => (xg (vi (K := K) rfl (pv 0) (fun _ => rfl)) (xw ZH (by rfl) T.n_int rfl (QA.pa (qc (pv 0) qn))) yz))) qn))))))))
  · walk_at "ref"
  rintro _ O R ⟨z, rfl, hz, h⟩
  have hsp := PyProof.Rows.split_le z zD
  have es : Str.ofString ";" = zD := rfl
  have hz1 := hz.1
  refine zC (fun ρ' O' => ρ' = [some (.d (.str z)), some (.d (.list ((Txt.split z zD).map .str)))] ∧ O = O') (fun R1 hR1 => ?_) ?_
  · walk_at "wd"
    refine ⟨.inr (.inl ⟨rfl, _, rfl⟩), ?_⟩
    rw [es]
    exact ⟨by decide, by omega, hR1 _ _ ⟨rfl, rfl⟩⟩
  rintro _ _ ⟨rfl, rfl⟩
  have hw := jE z
  have hok : ∀ p ∈ Txt.split z zD, okD p ∧ p.length ≤ 100000 := fun p hp => Xf hz hp
  have hpd : ye z = xx ((Txt.split z zD).map (·.cps.toList)) := by unfold ye; rw [hw]
  rw [hpd] at h
  generalize Txt.split z zD = ps at *
  have e1 : (ps.map PyData.str).map W.d = ps.map fun p => W.d (.str p) := by rw [List.map_map]; rfl
  have mem : ∀ {w : W}, w ∈ (ps.map PyData.str).map W.d → ∃ p ∈ ps, w = .d (.str p) := fun {w} hw => by
    rw [e1] at hw
    obtain ⟨p, hp, rfl⟩ := List.mem_map.1 hw
    exact ⟨p, hp, rfl⟩
  walk_at "wd"
  refine ⟨ps.length, by simp [uM, yh, zr], ?_⟩
  by_cases h6 : 6 < ps.length
  · rw [if_pos (by omega)]
    have h0 := h
    unfold xx at h0
    rw [if_pos (.inl (by simpa using h6))] at h0
    exact .inl h0
  rw [if_neg (by omega)]
  refine ⟨_, rfl, by simp; omega, fun v => match v with | .d (.str p) => some (.bool (decide (3 < (p.length : Int)))) | _ => none, ?_, ps.map (fun p => decide (3 < (p.length : Int))), ?_, ?_⟩
  · intro w hw us hu
    obtain ⟨u, rfl⟩ := List.length_eq_one_iff.1 hu
    obtain ⟨p, hp, rfl⟩ := mem hw
    exact ⟨rfl, rfl, p, rfl, by have := (hok p hp).2; rw [sizeLine_eq]; omega, rfl⟩
  · rw [e1, jf ps _ _ (fun p => .bool (decide (3 < (p.length : Int)))) (fun _ => rfl)]
    show some (List.map W.d _) = _
    rw [List.map_map, List.map_map]
    rfl
  split
  · rename_i ht
    obtain ⟨p, hp, e⟩ := List.mem_map.1 ht
    have h0 := h
    unfold xx at h0
    rw [if_pos (.inr (List.any_eq_true.mpr ⟨p.cps.toList, List.mem_map.2 ⟨p, hp, rfl⟩, by have := of_decide_eq_true e; rw [← zu]; exact decide_eq_true (by omega)⟩))] at h0
    exact .inl h0
  · rename_i ht
    have hs : ∀ p ∈ ps, p.length ≤ 3 := fun p hp => by
      rcases Nat.lt_or_ge 3 p.length with z | z
      · exact absurd (List.mem_map.2 ⟨p, hp, decide_eq_true (by omega)⟩) ht
      · exact z
    have h0 := h
    unfold xx at h0
    rw [if_neg (by
      rintro (z | z)
      · exact h6 (by simpa using z)
      · obtain ⟨w, hw, e⟩ := List.any_eq_true.mp z
        obtain ⟨p, hp, rfl⟩ := List.mem_map.1 hw
        have := hs p hp
        have := of_decide_eq_true e
        rw [← zu] at this
        omega)] at h0
    refine ⟨_, rfl, by simp; omega, fun v => match v with | .d (.str p) => some (yd p.cps.toList) | _ => none, ?_, ?_⟩
    · intro w hw us hu
      obtain ⟨u, rfl⟩ := List.length_eq_one_iff.1 hu
      obtain ⟨p, hp, rfl⟩ := mem hw
      obtain ⟨hd, hl⟩ := hok p hp
      have hls : p.length ≤ sizeLine := by rw [sizeLine_eq]; omega
      have hs3 := hs p hp
      refine ⟨rfl, rfl, ?_⟩
      by_cases hp0 : p.cps.toList = []
      · have z0 : p.length = 0 := by rw [zu, hp0]; rfl
        refine .inl ⟨?_, hls, ?_⟩
        · show some (p.length != 0) = some false
          rw [z0]; rfl
        · show some (W.d PyData.none) = some (W.d (yd p.cps.toList))
          unfold yd
          rw [if_pos hp0]
      · have z0 : p.length ≠ 0 := fun e => hp0 (List.length_eq_zero_iff.mp (by rw [← zu]; exact e))
        have hn := PySem.intText_digits (x := p) hd hp0 (by omega)
        refine .inr ⟨?_, hls, ?_⟩
        · show some (p.length != 0) = some true
          simp [z0]
        · refine ⟨p, rfl, _, hn, by omega, ?_⟩
          show some (W.d (PyData.int _)) = some (W.d (yd p.cps.toList))
          unfold yd
          rw [if_neg hp0]
    · refine ⟨ps.map fun p => yd p.cps.toList, ?_, ?_⟩
      · rw [e1, jf ps _ _ (fun p => yd p.cps.toList) (fun _ => rfl)]
        simp only [kD, yh, zr, Option.bind_some, zM]
      · rw [List.map_map] at h0
        exact .inl h0
theorem uY (F : Fun K "_law_figures" "_law_figures" yK f fd) (T : Txt K mg C) (J3 : Cal P w K mg base 1 "_law_mixed" [] (zc K xn)) : FnOk P w K mg base CX0 2 f fd ["_law_cell", "_law_many"] (zc K kR) := by
  have nd := xy.nd
  apply F.okV xy (by rintro _ _ _ ⟨c, m, rfl, _⟩; rfl) (fun cdv A outer sh H E hr => (zg (zn (zW (K := K) rfl PySem.F.plainAttrs_str PySem.F.slot_str_join PySem.F.type_str_join (vK (K := K) rfl) zd (QA.pa (qc (qD (qU (N := ["_law_j", "_law_cell"]) (n := 1) (js := [0])) rfl (u6 rfl T.n_range (QA.pa (qc (pv 1) qn))) (fun _ _ _ _ => (zI (i := 0) (show List.Nodup (["_law_j", "_law_cell"] : List Str) by decide +kernel) rfl (Or.inl rfl))) (fun _ _ _ _ => vB) (fun _ _ _ _ => (zQ yB zd (zk yt (zk yx (zH J3 (hr.mono (by decide)) rfl (QA.pa (qc (pv 1) (qc (pv 0) qn)))) zf) zf) (fun _ _ => rfl)))) qn))))))
  · walk_at "ref"
  rintro _ O R ⟨c, m, rfl, hc, m0, m1, h⟩
  have dg : ∀ k : Int, 0 ≤ k → k < 10 → atI (Str.ofString "0123456789").cps.toList k = some (48 + k.toNat) := fun k h0 h1 => by
    obtain ⟨n, rfl⟩ := Int.eq_ofNat_of_zero_le h0
    have : ∀ n : _root_.Fin 10, atI (Str.ofString "0123456789").cps.toList ((n.val : Nat) : Int) = some (48 + ((n.val : Nat) : Int).toNat) := by decide +kernel
    exact this ⟨n, by omega⟩
  walk_at "wd"
  refine ⟨.inr (.inl ⟨rfl, _, rfl⟩), by omega, by omega, by omega, fun v => match v with | .d (.int j) => some (.str ⟨#[48 + (uS c j / 8 % 10).toNat]⟩) | _ => none, ?_, ((List.range m.toNat).map fun (j : Nat) => 48 + (uS c j / 8 % 10).toNat).map fun c => ⟨#[c]⟩, ?_, by decide, ?_, ?_⟩
  · intro a ha us hu
    obtain ⟨u, rfl⟩ := List.length_eq_one_iff.1 hu
    exact ⟨rfl, rfl, c, rfl, by omega, hc, ⟨by decide, by decide⟩, by rw [sizeLine_eq]; decide, _, dg _ (by omega) (by omega), rfl⟩
  · rw [← List.filterMap_map, jf (List.range m.toNat) (fun (i : Nat) => W.d (.int i)) _ (fun (j : Nat) => .str ⟨#[48 + (uS c j / 8 % 10).toNat]⟩) (fun _ => rfl)]
    show some (List.map W.d _) = _
    rw [List.map_map, List.map_map, List.map_map]
    rfl
  · have e : ∀ l : List Nat, ((l.map fun c => (⟨#[c]⟩ : Str)).map fun x => x.length).sum = l.length := fun l => by
      induction l with
      | nil => rfl
      | cons a l ih =>
        simp only [List.map_cons, List.sum_cons, ih, List.length_cons]
        show 1 + l.length = _
        omega
    rw [e]
    simp
    omega
  · refine .inl (h _ ?_ ?_)
    · intro k hk
      rw [xf, show Str.ofString "" = ⟨#[]⟩ from rfl, vk] at hk
      obtain ⟨j, _, rfl⟩ := List.mem_map.1 hk
      omega
    · rw [zu, xf, show Str.ofString "" = ⟨#[]⟩ from rfl, vk]
      simp
end
section
variable {P : Program} {w : World} {K : PySem.W.Frag} {mg : Str → Option Value} {base : Heap} {f : Addr} {fd : FuncData} {C : Addr}
seal L2.PE L2.PS L2.PSs L2.PT L2.PA in
theorem jF (F : Fun K "_law_body" "_law_body" xE f fd) (T : Txt K mg C) (J3 : Cal P w K mg base 1 "_law_mixed" [] (zc K xn)) (J1 : Cal P w K mg base 2 "_law_figures" [] (zc K kR)) : FnOk P w K mg base CX0 3 f fd ["_law_cell"] (zc K uA) := by
  have nd := vt.nd
  apply F.okV vt (by rintro _ _ _ ⟨c, rfl, _⟩; rfl) (fun cdv A outer sh H E hr => (zb (zm (i := 1) nd rfl (Or.inl rfl) (zk yx (zH J3 (hr.mono (by decide)) rfl (QA.pa (qc (pv 0) (qc zf qn)))) zf))
      (zb (zm (i := 2) nd rfl (Or.inl rfl) (zQ (vD (K := K) rfl) (Vy rfl) (zk yt (pv 1) zf) (fun _ _ => rfl)))
      (zb (zm (i := 3) nd rfl (Or.inl rfl) (zT qn))
      (zb (x9 PassesOwn.never rfl (u6 rfl T.n_range (QA.pa (qc (pv 2) qn))) (zI (i := 4) nd rfl (Or.inl rfl))
      (zb (zm (i := 5) nd rfl (Or.inl rfl) (zk yx (zH J3 (hr.mono (by decide)) rfl (QA.pa (qc (pv 0) (qc (zk yr zf (pv 4)) qn)))) zf))
      (zg (yw (zW (K := K) rfl PySem.F.plainAttrs_list PySem.F.slot_list_append PySem.F.type_list_append yb (pv 3) (QA.pa (qc (zH J1 (hr.mono (by decide)) rfl (QA.pa (qc (pv 5) (qc (zQ (vD (K := K) rfl) (yf (qc zf (qc zf (qc zf (qc zf (qc zf (qc zf (qc zf (qc (zQ (vD (K := K) rfl) (yf (qc zf (qc zf (qc zf (qc zf qn))))) (zk yt (zk yx (pv 1) zf) zf) (fun _ _ => rfl)) qn))))))))) (zk yt (pv 5) zf) (fun _ _ => rfl)) qn)))) qn)))))))
      (zg (zn (zW (K := K) rfl PySem.F.plainAttrs_str PySem.F.slot_str_join PySem.F.type_str_join (vK (K := K) rfl) zd (QA.pa (qc (pv 3) qn))))))))))
  · walk_at "ref"
  rintro _ O R ⟨c, rfl, hc, h⟩
  refine zC (fun ρ' O' => ∃ n : Int, 0 ≤ n ∧ Bt 1048600 n ∧ ρ' = [some (.d (.int c)), some (.d (.int n)), none, none, none, none] ∧ O = O') (fun R1 hR1 => ?_) ?_
  · walk_at "wd"
    have m0 := uT c 41
    have m1 := uU c 41
    exact ⟨hc, ⟨by decide, by decide⟩, hR1 _ _ ⟨_, by omega, (Bt.small (by omega) (by omega)).mono (by decide), rfl, rfl⟩⟩
  rintro _ _ ⟨n, n0, nb, rfl, rfl⟩
  refine zC (fun ρ' O' => ∃ m : Int, 0 ≤ m ∧ m ≤ 9 ∧ ρ' = [some (.d (.int c)), some (.d (.int n)), some (.d (.int m)), none, none, none] ∧ O = O') (fun R1 hR1 => ?_) ?_
  · walk_at "wd"
    have e : n % 8 = 0 ∨ n % 8 = 1 ∨ n % 8 = 2 ∨ n % 8 = 3 ∨ n % 8 = 4 ∨ n % 8 = 5 ∨ n % 8 = 6 ∨ n % 8 = 7 := by omega
    refine ⟨_, rfl, ?_⟩
    rcases e with e | e | e | e | e | e | e | e <;> rw [e] <;> exact ⟨_, rfl, hR1 _ _ ⟨_, by decide, by decide, rfl, rfl⟩⟩
  rintro _ _ ⟨m, m0, m1, rfl, rfl⟩
  refine zC (fun ρ' O' => ∃ b, ρ' = [some (.d (.int c)), some (.d (.int n)), some (.d (.int m)), some (.own b), none, none] ∧ O' b = some (.lst []) ∧ Old O O' ∧ O b = none) (fun R1 hR1 => ?_) ?_
  · walk_at "wd"
    exact fun b hb => hR1 _ _ ⟨b, rfl, zi, Old.refl.upd hb, hb⟩
  rintro _ O1 ⟨b, rfl, hb1, ho1, hb0⟩
  refine zC (fun ρ' O' => ∃ v4 v5, ∃ zs : List Str, ρ' = [some (.d (.int c)), some (.d (.int n)), some (.d (.int m)), some (.own b), v4, v5] ∧ O' b = some (.lst (zs.map uQ)) ∧ zs.length ≤ 9 ∧ (∀ z ∈ zs, okD z ∧ z.length ≤ 5) ∧ Old O O') (fun R1 hR1 => ?_) ?_
  · walk_at "wd"
    refine ⟨by omega, by omega, ?_⟩
    refine yC.rng (f := fun i => (i : Int)) (fun i ρ O' => ∃ v4 v5, ∃ zs : List Str, ρ = [some (.d (.int c)), some (.d (.int n)), some (.d (.int m)), some (.own b), v4, v5] ∧ O' b = some (.lst (zs.map uQ)) ∧ zs.length = i ∧ (∀ z ∈ zs, okD z ∧ z.length ≤ 5) ∧ Old O O') ⟨_, _, [], rfl, hb1, rfl, fun z hz => (by cases hz), ho1⟩ ?_ ?_
    · rintro i _ O2 hi ⟨v4, v5, zs, rfl, hb2, hl2, hz2, ho2⟩ R2 hR2
      have hi9 : i < 9 := by omega
      refine zC (fun ρ' O' => ∃ k : Int, 0 ≤ k ∧ Bt 1048600 k ∧ ρ' = [some (.d (.int c)), some (.d (.int n)), some (.d (.int m)), some (.own b), some (.d (.int i)), some (.d (.int k))] ∧ O2 = O') (fun R3 hR3 => ?_) ?_
      · walk_at "wd"
        have q0 := uT c (43 + i)
        have q1 := uU c (43 + i)
        exact ⟨by omega, by omega, hc, ⟨by decide, by decide⟩, hR3 _ _ ⟨_, by omega, (Bt.small (by omega) (by omega)).mono (by decide), rfl, rfl⟩⟩
      rintro _ _ ⟨k, k0, kb, rfl, rfl⟩
      have e2 : ∀ w, yj O2 (.own b) w = some (updO O2 b (.lst (zs.map uQ ++ [w]))) := fun w => by
        simp only [yj, hb2]
        rw [if_pos (by rw [List.length_map]; omega)]
      have fin : ∀ y : Int, 0 ≤ y → y ≤ 5 → kR [.d (.int k), .d (.int y)] O2 fun v O3 => ∃ O4, yj O3 (.own b) v = some O4 ∧ R2 [some (.d (.int c)), some (.d (.int n)), some (.d (.int m)), some (.own b), some (.d (.int i)), some (.d (.int k))] O4 := fun y y0 y1 =>
        ⟨k, y, rfl, kb, y0, by omega, fun z hz hzl => ⟨_, e2 _, hR2 _ _ ⟨_, _, zs ++ [z], rfl, by rw [zi, List.map_append]; rfl, by simp [hl2], fun x hx => (by
          rcases List.mem_append.mp hx with hx | hx
          · exact hz2 x hx
          · cases List.mem_singleton.mp hx; exact ⟨hz, by omega⟩), ho2.upd hb0⟩⟩⟩
      have q4 : n / 64 % 4 = 0 ∨ n / 64 % 4 = 1 ∨ n / 64 % 4 = 2 ∨ n / 64 % 4 = 3 := by omega
      have q8 : k % 8 = 0 ∨ k % 8 = 1 ∨ k % 8 = 2 ∨ k % 8 = 3 ∨ k % 8 = 4 ∨ k % 8 = 5 ∨ k % 8 = 6 ∨ k % 8 = 7 := by omega
      walk_at "wd"
      refine ⟨.inl ⟨rfl, by simp [zr, hb2]⟩, ⟨by decide, by decide⟩, _, rfl, ?_⟩
      rcases q4 with e | e | e | e <;> rw [e] <;> refine ⟨_, rfl, _, ⟨_, rfl, rfl⟩, by show (8 : Nat) ≤ 1000; decide, _, rfl, ?_⟩ <;> rcases q8 with g | g | g | g | g | g | g | g <;> rw [g] <;> exact ⟨_, rfl, fin _ (by decide) (by decide)⟩
    · rintro _ O2 ⟨v4, v5, zs, rfl, hb2, hl2, hz2, ho2⟩
      exact hR1 _ _ ⟨_, _, zs, rfl, hb2, by omega, hz2, ho2⟩
  rintro _ O2 ⟨v4, v5, zs, rfl, hb2, hl2, hz2, ho2⟩
  have es : Str.ofString ";" = zD := rfl
  have eb : zr O2 (.own b) = some (zs.map uQ) := by simp [zr, hb2]
  have hsum : (zs.map (·.length)).sum ≤ 5 * zs.length := by
    clear eb hb2 hl2
    induction zs with
    | nil => exact Nat.le_refl _
    | cons z zs ih =>
      have h1 := (hz2 z List.mem_cons_self).2
      have h2 := ih fun x hx => hz2 x (List.mem_cons_of_mem _ hx)
      simp only [List.map_cons, List.sum_cons, List.length_cons]
      omega
  have jl : (Txt.join zD zs).cps.toList.length ≤ 54 := by
    rw [xf]
    have := v9 zD zs
    rw [show zD.length = 1 from rfl] at this
    omega
  have jm : ∀ c ∈ (Txt.join zD zs).cps.toList, c = 59 ∨ (48 ≤ c ∧ c ≤ 57) := fun c hc => by
    rw [xf] at hc
    rcases (PyProof.Rows.mem_join zD c zs).mp hc with ⟨t, ht, hct⟩ | ⟨_, hct⟩
    · exact .inr ((hz2 t ht).1 c hct)
    · exact .inl (List.mem_singleton.mp hct)
  have okJ : okB (Txt.join zD zs) := ⟨by rw [zu]; omega, jm⟩
  walk_at "wd"
  rw [es]
  exact ⟨.inr (.inl ⟨rfl, _, rfl⟩), zs, eb, by decide, by omega, .inl (h _ _ ho2 okJ (by rw [zu]; exact jl))⟩
seal L2.PE L2.PS L2.PSs L2.PT L2.PA in
theorem qv (F : Fun K "_law_piece" "_law_piece" yD f fd) (T : Txt K mg C) (J3 : Cal P w K mg base 1 "_law_mixed" [] (zc K xn)) (JZ : Cal P w K mg base 3 "_law_body" [] (zc K uA)) : FnOk P w K mg base CX0 4 f fd ["_law_cell"] (zc K Ub) := by
  have nd := x3.nd
  apply F.okV x3 (by rintro _ _ _ ⟨c, rfl, _⟩; rfl) (fun cdv A outer sh H E hr => (zb (zm (i := 1) nd rfl (Or.inl rfl) (zk yx (zH J3 (hr.mono (by decide)) rfl (QA.pa (qc (pv 0) (qc zf qn)))) zf))
      (zb (zm (i := 2) nd rfl (Or.inl rfl) zd)
      (zb (zm (i := 3) nd rfl (Or.inl rfl) (zQ yB (pv 2) (zk yt (zk yx (pv 1) zf) (zE zZ (by rfl) T.n_len (by rfl) (QA.pa (qc (pv 2) qn)))) (fun _ _ => rfl)))
      (zb (zm (i := 4) nd rfl (Or.inl rfl) (zQ yB zd (zk yt (zk yx (pv 1) zf) zf) (fun _ _ => rfl)))
      (zb (zm (i := 5) nd rfl (Or.inl rfl) (zk zA zd (zH JZ (hr.mono (by decide)) rfl (QA.pa (qc (zk yx (pv 1) zf) qn)))))
      (zb (zm (i := 6) nd rfl (Or.inl rfl) (yf (qc (pv 3) (qc (pv 3) (qc (pv 4) (qc (zk zA (pv 5) (pv 4)) (qc (zk zA (pv 5) (pv 4)) (qc (zk zA (pv 5) (pv 4)) (qc (zk zA (pv 5) (pv 3)) (qc (pv 5) (qc zd (qc zd qn))))))))))))
      (zg (zn (zQ (vD (K := K) rfl) (zk (Zu (K := K) rfl) (pv 6) (yf (qc zd (qc zd (qc (zk zA zd (pv 4)) (qc zd (qc (zk zA (pv 5) zd) (qc (zk zA zd (pv 3)) qn)))))))) (zk yt (pv 1) zf) (fun _ _ => rfl)))))))))))
  · walk_at "ref"
  rintro _ O R ⟨c, rfl, hc, h⟩
  obtain ⟨SG, hSG⟩ : ∃ z, z = Str.ofString " !\"#$&'()*+,-./:<=>?\x40[\\]^_`{|}~aZ5;\n\t" := ⟨_, rfl⟩
  obtain ⟨LT, hLT⟩ : ∃ z, z = Str.ofString "abcdefghijklmnopqrstuvwxyzABCDEFGHIJKLMNOPQRSTUVWXYZ" := ⟨_, rfl⟩
  have tS : okT SG ∧ SG.length = 37 := by rw [hSG]; unfold okT; decide +kernel
  have tL : okT LT ∧ LT.length = 52 := by rw [hLT]; unfold okT; decide +kernel
  have t1 : okT (Str.ofString "~") ∧ (Str.ofString "~").length = 1 := by unfold okT; decide +kernel
  have t2 : okT (Str.ofString "~~") ∧ (Str.ofString "~~").length = 2 := by unfold okT; decide +kernel
  have t3 : okT (Str.ofString "\n") ∧ (Str.ofString "\n").length = 1 := by unfold okT; decide +kernel
  have t4 : okT (Str.ofString "\t") ∧ (Str.ofString "\t").length = 1 := by unfold okT; decide +kernel
  have t5 : okT (Str.ofString "~;~~") ∧ (Str.ofString "~;~~").length = 4 := by unfold okT; decide +kernel
  refine zC (fun ρ' O' => ∃ n : Int, 0 ≤ n ∧ n < 1000000000000 ∧ ρ' = [some (.d (.int c)), some (.d (.int n)), none, none, none, none, none] ∧ O = O') (fun R1 hR1 => ?_) ?_
  · walk_at "wd"
    have m0 := uT c 31
    have m1 := uU c 31
    exact ⟨hc, ⟨by decide, by decide⟩, hR1 _ _ ⟨_, by omega, by omega, rfl, rfl⟩⟩
  rintro _ _ ⟨n, n0, n1, rfl, rfl⟩
  refine k6 (fun ρ' O' => ∃ k : Nat, k < 128 ∧ ρ' = [some (.d (.int c)), some (.d (.int n)), some (.d (.str SG)), some (.d (.str ⟨#[k]⟩)), none, none, none] ∧ O = O') (fun R1 hR1 => ?_) ?_
  · obtain ⟨k, e, hk⟩ := vC (xs := SG.cps.toList) (i := n / 16 % 37) (R := fun c => c < 128) (by omega) (by rw [← zu, tS.2]; omega) tS.1
    walk_at "wd"
    rw [← hSG, tS.2]
    exact ⟨⟨by decide, by decide⟩, by rw [sizeLine_eq]; decide, by decide, by rw [sizeLine_eq]; decide, k, e, hR1 _ _ ⟨k, hk, rfl, rfl⟩⟩
  rintro _ _ ⟨k, hk, rfl, rfl⟩
  refine zC (fun ρ' O' => ∃ l : Nat, l < 128 ∧ ρ' = [some (.d (.int c)), some (.d (.int n)), some (.d (.str SG)), some (.d (.str ⟨#[k]⟩)), some (.d (.str ⟨#[l]⟩)), none, none] ∧ O = O') (fun R1 hR1 => ?_) ?_
  · obtain ⟨l, e, hl⟩ := vC (xs := LT.cps.toList) (i := n / 1024 % 52) (R := fun c => c < 128) (by omega) (by rw [← zu, tL.2]; omega) tL.1
    walk_at "wd"
    rw [← hLT]
    exact ⟨⟨by decide, by decide⟩, by rw [tL.2, sizeLine_eq]; decide, l, e, hR1 _ _ ⟨l, hl, rfl, rfl⟩⟩
  rintro _ _ ⟨l, hl, rfl, rfl⟩
  refine zC (fun ρ' O' => ∃ B : Str, okT B ∧ B.length ≤ 55 ∧ ρ' = [some (.d (.int c)), some (.d (.int n)), some (.d (.str SG)), some (.d (.str ⟨#[k]⟩)), some (.d (.str ⟨#[l]⟩)), some (.d (.str B)), none] ∧ Old O O') (fun R1 hR1 => ?_) ?_
  · walk_at "wd"
    exact ⟨⟨by decide, by decide⟩, _, rfl, (Bt.small (by omega) (by omega)).mono (by decide), fun z O' ho hz hzl => ⟨z, rfl, by rw [t1.2, sizeLine_eq]; omega, hR1 _ _ ⟨_, vN t1.1 (Jp hz), by rw [vO, t1.2]; omega, rfl, ho⟩⟩⟩
  rintro _ O1 ⟨B, hB, hBl, rfl, ho⟩
  have sk : okT ⟨#[k]⟩ ∧ (⟨#[k]⟩ : Str).length = 1 := ⟨fun c hc => by cases List.mem_singleton.mp hc; exact hk, rfl⟩
  have sl : okT ⟨#[l]⟩ ∧ (⟨#[l]⟩ : Str).length = 1 := ⟨fun c hc => by cases List.mem_singleton.mp hc; exact hl, rfl⟩
  have sz : ∀ {a b : Str}, a.length ≤ 60 → b.length ≤ 60 → a.length + b.length ≤ sizeLine := fun {a b} h1 h2 => by rw [sizeLine_eq]; omega
  have ap : ∀ {a b : Str}, okT a → okT b → a.length + b.length ≤ 60 → okT (a ++ b) ∧ (a ++ b).length ≤ 60 := fun {a b} h1 h2 h3 => ⟨vN h1 h2, by rw [vO]; exact h3⟩
  have bl := ap (a := B) (b := ⟨#[l]⟩) hB sl.1 (by rw [sl.2]; omega)
  have bk := ap (a := B) (b := ⟨#[k]⟩) hB sk.1 (by rw [sk.2]; omega)
  have bt := ap (a := B) hB t1.1 (by rw [t1.2]; omega)
  have tl := ap (b := ⟨#[l]⟩) t1.1 sl.1 (by rw [t1.2, sl.2]; omega)
  have tk := ap (b := ⟨#[k]⟩) t1.1 sk.1 (by rw [t1.2, sk.2]; omega)
  have all : ∀ w ∈ ([.str ⟨#[k]⟩, .str ⟨#[k]⟩, .str ⟨#[l]⟩, .str (B ++ ⟨#[l]⟩), .str (B ++ ⟨#[l]⟩), .str (B ++ ⟨#[l]⟩), .str (B ++ ⟨#[k]⟩), .str B, .str (Str.ofString "~~"), .str (Str.ofString "~"), .str (Str.ofString "\n"), .str (Str.ofString "\t"), .str (Str.ofString "~" ++ ⟨#[l]⟩), .str (Str.ofString "~;~~"), .str (B ++ Str.ofString "~"), .str (Str.ofString "~" ++ ⟨#[k]⟩)] : List PyData).map W.d, ∃ z, w = .d (.str z) ∧ okT z ∧ z.length ≤ 60 := by
    intro w hw
    simp only [List.map_cons, List.map_nil, List.mem_cons, List.not_mem_nil, or_false] at hw
    rcases hw with rfl | rfl | rfl | rfl | rfl | rfl | rfl | rfl | rfl | rfl | rfl | rfl | rfl | rfl | rfl | rfl
    · exact ⟨_, rfl, sk.1, by rw [sk.2]; decide⟩
    · exact ⟨_, rfl, sk.1, by rw [sk.2]; decide⟩
    · exact ⟨_, rfl, sl.1, by rw [sl.2]; decide⟩
    · exact ⟨_, rfl, bl⟩
    · exact ⟨_, rfl, bl⟩
    · exact ⟨_, rfl, bl⟩
    · exact ⟨_, rfl, bk⟩
    · exact ⟨_, rfl, hB, by omega⟩
    · exact ⟨_, rfl, t2.1, by rw [t2.2]; decide⟩
    · exact ⟨_, rfl, t1.1, by rw [t1.2]; decide⟩
    · exact ⟨_, rfl, t3.1, by rw [t3.2]; decide⟩
    · exact ⟨_, rfl, t4.1, by rw [t4.2]; decide⟩
    · exact ⟨_, rfl, tl⟩
    · exact ⟨_, rfl, t5.1, by rw [t5.2]; decide⟩
    · exact ⟨_, rfl, bt⟩
    · exact ⟨_, rfl, tk⟩
  obtain ⟨w, ew, z, rfl, hz, hzl⟩ := vC (i := n % 16) (by omega) (by simp only [List.length_map, List.length_cons, List.length_nil]; omega) all
  walk_at "wd"
  exact ⟨sz (by omega) (by rw [sl.2]; decide), sz (by omega) (by rw [sk.2]; decide), sz (by rw [t1.2]; decide) (by rw [sl.2]; decide), sz (by omega) (by rw [t1.2]; decide), sz (by rw [t1.2]; decide) (by rw [sk.2]; decide), _, rfl, _, rfl, _, zM _, _, zM _, by simp only [List.length_cons, List.length_nil]; decide, _, rfl, _, ew, .inl (h z O1 ho hz hzl)⟩
theorem jy (F : Fun K "_law_piece" "_law_piece" yD f fd) (T : Txt K mg C) (J3 : Cal P w K mg base 1 "_law_mixed" [] (zc K xn)) (JZ : Cal P w K mg base 3 "_law_body" [] (zc K uA)) : FnOk P w K mg base CX0 4 f fd ["_law_cell"] (zc K uW) := by
  exact (qv F T J3 JZ).forget fun ws O R ⟨c, e, hc, h⟩ => ⟨c, e, hc, fun z O' ho hz hl => ⟨ho, h z hz hl⟩⟩
end
section
variable {P : Program} {w : World} {K : PySem.W.Frag} {mg : Str → Option Value} {base : Heap} {f : Addr} {fd : FuncData} {C : Addr}
theorem jz (F : Fun K "is_figure" "is_figure" xC f fd) (T : Txt K mg C) : FnOk P w K mg base CX0 1 f fd ["sign"] (zc K kX) := by
  have nd := vp.nd
  apply F.okV vp (by rintro _ _ _ ⟨c, rfl, _⟩; rfl) (fun cdv A outer sh H E hr => (zg (zn (vV yy yy zd (pv 0) zd))))
  · walk_at "ref"
  rintro _ O R ⟨c, rfl, h⟩
  have c0 : (Str.ofString "0").cps = #[48] := by decide +kernel
  have c9 : (Str.ofString "9").cps = #[57] := by decide +kernel
  walk_at "wd"
  rw [c0, c9]
  simp only [leA, ltA]
  by_cases q : 48 ≤ c
  · rw [if_pos q, show (!decide (57 < c)) = decide (zY c) by unfold zY; by_cases z : 57 < c <;> simp [z, q] <;> omega]
    exact .inl h
  · rw [if_neg q, show false = decide (zY c) from (decide_eq_false fun z => by have := z.1; omega).symm]
    exact .inl h
theorem jA (F : Fun K "is_letter" "is_letter" xD f fd) (T : Txt K mg C) : FnOk P w K mg base CX0 1 f fd ["sign"] (zc K kW) := by
  have nd := vq.nd
  apply F.okV vq (by rintro _ _ _ ⟨c, rfl, _⟩; rfl) (fun cdv A outer sh H E hr => (zg (zn (QX (vV yy yy zd (pv 0) zd) (qK (vV yy yy zd (pv 0) zd))))))
  · walk_at "ref"
  rintro _ O R ⟨c, rfl, h⟩
  have ca : (Str.ofString "a").cps = #[97] := by decide +kernel
  have cz : (Str.ofString "z").cps = #[122] := by decide +kernel
  have cA' : (Str.ofString "A").cps = #[65] := by decide +kernel
  have cZ : (Str.ofString "Z").cps = #[90] := by decide +kernel
  walk_at "wd"
  rw [ca, cz, cA', cZ]
  simp only [leA, ltA]
  have fin : ∀ k : Bool, k = decide (yk c) → Clo R (.d (.bool k)) O := fun k e => .inl (by rw [e]; exact h)
  by_cases q : 97 ≤ c
  · rw [if_pos q]
    by_cases q2 : 122 < c
    · refine .inl ⟨q2, ?_⟩
      rw [if_pos (by omega)]
      exact fin _ (by rw [decide_eq_true (show 90 < c by omega)]; exact (decide_eq_false fun z => by rcases z with z | z <;> omega).symm)
    · exact .inr ⟨by omega, fin _ (decide_eq_true (Or.inl ⟨q, by omega⟩)).symm⟩
  · rw [if_neg q]
    by_cases q2 : 65 ≤ c
    · rw [if_pos q2]
      by_cases z : 90 < c
      · exact fin _ (by rw [decide_eq_true z]; exact (decide_eq_false fun z => by rcases z with z | z <;> omega).symm)
      · exact fin _ (by rw [decide_eq_false z]; exact (decide_eq_true (Or.inr ⟨q2, by omega⟩)).symm)
    · rw [if_neg q2]
      exact fin _ (decide_eq_false fun z => by rcases z with z | z <;> omega).symm
theorem qw (F : Fun K "sign_alone" "sign_alone" xq f fd) (T : Txt K mg C) : FnOk P w K mg base CX0 1 f fd ["sign"] (zc K yI) := by
  have nd := xZ.nd
  apply F.okV xZ (by rintro _ _ _ ⟨c, rfl, _⟩; rfl) (fun cdv A outer sh H E hr => (zb (zL (zl yu (pv 0) zd (zp _)) (zg (zn (zS (qc zd qn)))) zB)
      (zb (zL (zl yu (pv 0) zd (zp _)) (zg (zn (zS (qc zd qn)))) zB)
      (zg (zn (zS (qc zd (qc (pv 0) qn))))))))
  · walk_at "ref"
  rintro _ O R ⟨c, rfl, h⟩
  have en : Str.ofString "\n" = ⟨#[10]⟩ := by decide +kernel
  have et : Str.ofString "\t" = ⟨#[9]⟩ := by decide +kernel
  walk_at "wd"
  unfold zv at h
  rw [en, et]
  simp only [vm]
  by_cases q : c = 10
  · rw [if_pos q] at h ⊢; exact .inl h
  · rw [if_neg q] at h ⊢
    by_cases q2 : c = 9
    · rw [if_pos q2] at h ⊢; exact .inl h
    · rw [if_neg q2] at h ⊢; exact .inl h
theorem uZ (F : Fun K "__init__" "Reader.__init__" zw f fd) (T : Txt K mg C) : FnOk P w K mg base CX0 1 f fd ["self"] (zc K (jk C)) := by
  have nd := yR.nd
  apply F.okV yR (by rintro _ _ _ ⟨x, dx, rfl, _⟩; rfl) (fun cdv A outer sh H E hr => (zg (uO (K := K) rfl (pv 0) (zT qn) rfl)))
  · walk_at "ref"
  rintro _ O R ⟨x, dx, rfl, hx, h⟩
  walk_at "wd"
  intro p hp
  have e1 : p ≠ x := fun e => by rw [e, hx] at hp; cases hp
  refine ⟨C, dx, [], by rw [ze (Ne.symm e1)]; exact hx, T.st.cl, T.st.n_begun, by decide, .inl (h p _ hp ⟨zi, by rw [ze e1, zi]; rfl⟩ fun a ha hpp => by rw [ze ha, ze hpp])⟩
theorem vx (F : Fun K "open_row" "Reader.open_row" zx f fd) (T : Txt K mg C) : FnOk P w K mg base CX0 1 f fd ["self"] (zc K (uz C)) := by
  have nd := yS.nd
  apply F.okV yS (by rintro _ _ _ ⟨x, dx, p, b, rfl, _⟩; rfl) (fun cdv A outer sh H E hr => (zg (zn (zW (K := K) rfl PySem.F.plainAttrs_str PySem.F.slot_str_join PySem.F.type_str_join (vK (K := K) rfl) zd (QA.pa (qc (xc (K := K) rfl (pv 0) rfl) qn))))))
  · walk_at "ref"
  rintro _ O R ⟨x, dx, p, b, rfl, hx, hl, h⟩
  walk_at "wd"
  refine ⟨.inr (.inl ⟨rfl, _, rfl⟩), C, dx, _, hx.x, T.st.cl, T.st.n_begun, _, yl, b.map sgS, ?_, by decide, ?_, ?_⟩
  · simp only [zr, hx.p, List.map_map]
    rfl
  · rw [jY fun x hx => by obtain ⟨c, _, rfl⟩ := List.mem_map.1 hx; rfl, List.length_map]
    omega
  · have e : Txt.join (Str.ofString "") (b.map sgS) = ⟨b.toArray⟩ := Xg b
    rw [e]
    exact .inl h
theorem vP (F : Fun K "end_row" "Reader.end_row" zy f fd) (T : Txt K mg C) (Ka : Cal P w K mg base 1 "parted" [] (zc K jj)) (JW : CalT P w K mg base 1 "open_row" C (zc K (uz C))) : FnOk P w K mg base CX0 2 f fd ["self", "letter"] (zc K (kY C)) := by
  have nd := yW.nd
  apply F.okV yW (by rintro _ _ _ ⟨x, dx, p, b, c, rfl, _⟩; rfl) (fun cdv A outer sh H E hr => (zb (zm (i := 2) nd rfl (Or.inl rfl) (zH Ka (hr.mono (by decide)) rfl (QA.pa (qc (xT uR (yG JW (hr.mono (by decide)) (pv 0)) (y7 zf) jN) qn))))
      (zb (uO (K := K) rfl (pv 0) (zT qn) rfl)
      (zg (zn (xg (zl UH (pv 2) yz (zp _)) (zT qn) (zT (qc (zS (qc zd (qc (pv 1) (qc (pv 2) qn)))) qn))))))))
  · walk_at "ref"
  rintro _ O R ⟨x, dx, p, b, c, rfl, hx, hb, hg, hl, h⟩
  have hz : kU ⟨(b.drop 1).toArray⟩ := ⟨by show (b.drop 1).toArray.size ≤ 100000; rw [List.size_toArray, List.length_drop]; omega, hg⟩
  have hlen : (⟨b.toArray⟩ : Str).length ≤ sizeLine := by show b.toArray.size ≤ sizeLine; rw [List.size_toArray, sizeLine_eq]; omega
  have hsl := kZ hb
  walk_at "wd"
  refine ⟨dx, _, hx.x, by simp; decide, x, dx, p, b, rfl, hx, hl, _, rfl, hlen, ?_⟩
  rw [hsl]
  refine ⟨_, rfl, hz, fun p' hp' => ?_⟩
  have e1 : p' ≠ x := fun e => by rw [e, hx.x] at hp'; cases hp'
  refine ⟨C, dx, _, by rw [ze (Ne.symm e1)]; exact hx.x, T.st.cl, T.st.n_begun, by simp, ?_⟩
  have ep : vg (Str.ofString "begun") (W.own p') [(Str.ofString "begun", W.own p)] = [(Str.ofString "begun", .own p')] := by simp [vg]
  rw [ep]
  obtain ⟨n1, n2, n3⟩ := ZU hx hp' [] rfl
  have hrw : rwD b c = if Xc (ye ⟨(b.drop 1).toArray⟩) = true then [] else [.tuple [.str (Str.ofString "row"), .str (sgS c), ye ⟨(b.drop 1).toArray⟩]] := rfl
  rcases xW ⟨(b.drop 1).toArray⟩ with e | ⟨ds, e, _, _⟩
  · rw [e] at hrw ⊢
    have hrw2 : rwD b c = [] := hrw
    rw [if_pos rfl]
    intro q hq
    obtain ⟨r1, r2, r3, r4, r5⟩ := vn (L := []) n1 n2 n3 hq
    exact .inl (h q p' _ r1 r2 hp' r3 r4 (by rw [hrw2]; exact r5))
  · rw [e] at hrw ⊢
    have hrw2 : rwD b c = [.tuple [.str (Str.ofString "row"), .str (sgS c), .tuple ds]] := hrw
    rw [if_neg (by intro z; cases z)]
    refine ⟨_, ⟨_, rfl, rfl⟩, by show 3 ≤ 1000; omega, fun q hq => ?_⟩
    obtain ⟨r1, r2, r3, r4, r5⟩ := vn (L := [.d (.tuple [.str (Str.ofString "row"), .str (sgS c), .tuple ds])]) n1 n2 n3 hq
    exact .inl (h q p' _ r1 r2 hp' r3 r4 (by rw [hrw2]; exact r5))
theorem x4 (F : Fun K "read_sign" "Reader.read_sign" zt f fd) (T : Txt K mg C) (J9 : Cal P w K mg base 1 "is_letter" [] (zc K kW)) (JV : CalT P w K mg base 2 "end_row" C (zc K (kY C))) (J8 : Cal P w K mg base 1 "is_figure" [] (zc K kX)) (Kb : Cal P w K mg base 1 "sign_alone" [] (zc K yI)) : FnOk P w K mg base CX0 3 f fd ["self", "sign"] (zc K (jn C)) := by
  have nd := yE.nd
  apply F.okV yE (by rintro _ _ _ ⟨x, dx, p, b, c, rfl, _⟩; rfl) (fun cdv A outer sh H E hr => (zb (zL (PW.pt (xG (vi (K := K) rfl (xc (K := K) rfl (pv 0) rfl) (fun _ => rfl)) (y6 (yq (zH J9 (hr.mono (by decide)) rfl (QA.pa (qc (pv 1) qn))))))) (zg (zn (xl JV (hr.mono (by decide)) (pv 0) (QA.pa (qc (pv 1) qn))))) zB)
      (zb (zL (PW.pt (xG (vi (K := K) rfl (xc (K := K) rfl (pv 0) rfl) (fun _ => rfl)) (y6 (PW.pt (yM (yq (zH J8 (hr.mono (by decide)) rfl (QA.pa (qc (pv 1) qn)))) (yA (zl yu (pv 1) zd (zp _)))))))) (zb (yw (zW (K := K) rfl PySem.F.plainAttrs_list PySem.F.slot_list_append PySem.F.type_list_append yb (xc (K := K) rfl (pv 0) rfl) (QA.pa (qc (pv 1) qn))))
      (zg (zn (zT qn)))) zB)
      (zb (zm (i := 2) nd rfl (Or.inl rfl) (xH yu (zE (uu (K := K) rfl) (by rfl) T.n_len (by rfl) (QA.pa (qc (xc (K := K) rfl (pv 0) rfl) qn))) zf (zp _)))
      (zb (uO (K := K) rfl (pv 0) (zT qn) rfl)
      (zb (zL (PW.pt (yM (zl xu (pv 1) (Jo rfl T.g_OPENING) (zp _)) (yA (yq (pv 2))))) (zg (zn (zT (qc (zH Kb (hr.mono (by decide)) rfl (QA.pa (qc (pv 1) qn))) qn)))) zB)
      (zb (yw (zW (K := K) rfl PySem.F.plainAttrs_list PySem.F.slot_list_append PySem.F.type_list_append yb (xc (K := K) rfl (pv 0) rfl) (QA.pa (qc (pv 1) qn))))
      (zg (zn (zT qn))))))))))
  · walk_at "ref"
  rintro _ O R ⟨x, dx, p, b, c, rfl, hx, hg, hl, h⟩
  have hT : ∀ {a : W} {k : Bool}, a = .own p → (!decide (b = [])) = k → v1 O a = some k := fun e1 e2 => by
    subst e1 e2
    simp only [v1, hx.p]
    cases b <;> rfl
  refine zC (fun ρ' O' => ¬(b ≠ [] ∧ yk c) ∧ ρ' = [some (.own x), some (sgW c), none] ∧ O = O') (fun R1 hR1 => ?_) ?_
  · by_cases hb : b = []
    · walk_at "wd"
      exact ⟨C, dx, _, hx.x, T.st.cl, T.st.n_begun, _, yl, .inl ⟨by simp [hx.p, hb], trivial, hR1 _ _ ⟨fun z => z.1 hb, rfl, rfl⟩⟩⟩
    · walk_at "wd"
      refine ⟨C, dx, _, hx.x, T.st.cl, T.st.n_begun, _, yl, .inr ⟨by simp [hx.p, hb], trivial, c, rfl, ?_⟩⟩
      show if decide (yk c) = true then _ else _
      by_cases hlc : yk c
      · have hS : rdS b c = ([], rwD b c) := if_pos ⟨hb, hlc⟩
        rw [hS] at h
        rw [if_pos (decide_eq_true hlc)]
        exact ⟨dx, _, hx.x, by simp; decide, x, dx, p, b, c, rfl, hx, hb, hg, by omega, fun q p' O' r1 r2 r3 r4 r5 r6 => .inl (h q p' O' r1 r2 (.inr r3) r4 r5 r6)⟩
      · rw [if_neg (by simpa using hlc)]
        exact hR1 _ _ ⟨fun z => hlc z.2, rfl, rfl⟩
  rintro _ _ ⟨q1, rfl, rfl⟩
  have es : Str.ofString ";" = ⟨#[59]⟩ := by decide +kernel
  have eo : Str.ofString "~" = ⟨#[126]⟩ := by decide +kernel
  refine zC (fun ρ' O' => ¬(b ≠ [] ∧ (zY c ∨ c = 59)) ∧ ρ' = [some (.own x), some (sgW c), none] ∧ O = O') (fun R1 hR1 => ?_) ?_
  · by_cases hb : b = []
    · walk_at "wd"
      exact ⟨C, dx, _, hx.x, T.st.cl, T.st.n_begun, _, yl, .inl ⟨by simp [hx.p, hb], trivial, hR1 _ _ ⟨fun z => z.1 hb, rfl, rfl⟩⟩⟩
    · walk_at "wd"
      refine ⟨C, dx, _, hx.x, T.st.cl, T.st.n_begun, _, yl, .inr ⟨by simp [hx.p, hb], trivial, c, rfl, ?_⟩⟩
      have put := ZV hx (b ++ [c])
      have ea : yj O (.own p) (sgW c) = some (updO O p (.lst ((b ++ [c]).map sgW))) := by
        simp only [yj, hx.p]
        rw [if_pos (by rw [List.length_map]; omega), List.map_append]
        rfl
      have yes : (zY c ∨ c = 59) → ∃ C dx fs, O x = some (.ins C dx fs) ∧ Cls K C ∧ NoAttr K C (Str.ofString "begun") ∧ ∃ w, List.lookup (Str.ofString "begun") fs = some w ∧ tyW "list" O w ∧ ∃ x, yj O w (sgW c) = some x ∧ ∀ (p : Addr), x p = none → Clo R (.own p) (updO x p (.lst [])) := fun z => by
        have hS : rdS b c = (b ++ [c], []) := by unfold rdS; rw [if_neg q1, if_pos ⟨hb, z⟩]
        rw [hS] at h
        refine ⟨C, dx, _, hx.x, T.st.cl, T.st.n_begun, _, yl, .inl ⟨rfl, by simp [zr, hx.p]⟩, _, ea, fun q hq => ?_⟩
        obtain ⟨r1, r2, r3, r4, r5⟩ := vn (L := []) put.1 put.2.1 put.2.2 hq
        exact .inl (h q p _ r1 r2 (.inl rfl) r3 r4 r5)
      show if decide (zY c) = true then _ else _
      by_cases hf : zY c
      · rw [if_pos (decide_eq_true hf)]; exact yes (.inl hf)
      · rw [if_neg (by simpa using hf), es]
        simp only [vm]
        by_cases h59 : c = 59
        · rw [if_pos h59]; exact yes (.inr h59)
        · rw [if_neg h59]
          refine hR1 _ _ ⟨fun z => ?_, rfl, rfl⟩
          rcases z.2 with z | z
          · exact hf z
          · exact h59 z
  rintro _ _ ⟨q2, rfl, rfl⟩
  have hS : rdS b c = if c ≠ 126 ∨ b.length = 1 then ([], [zv c]) else ([126], []) := by
    unfold rdS
    rw [if_neg q1, if_neg q2]
  rw [hS] at h
  refine k6 (fun ρ' O' => ρ' = [some (.own x), some (sgW c), some (.d (.bool (decide (b.length = 1))))] ∧ ∃ p', O p' = none ∧ O' = updO (updO O p' (.lst [])) x (.ins C dx [(Str.ofString "begun", .own p')])) (fun R1 hR1 => ?_) ?_
  · walk_at "wd"
    refine ⟨C, dx, _, hx.x, T.st.cl, T.st.n_begun, _, yl, b.length, by simp [uM, yh, zr, hx.p], fun p' hp' => ?_⟩
    have e1 : p' ≠ x := fun e => by rw [e, hx.x] at hp'; cases hp'
    refine ⟨C, dx, _, by rw [ze (Ne.symm e1)]; exact hx.x, T.st.cl, T.st.n_begun, by simp, ?_⟩
    have ep : vg (Str.ofString "begun") (W.own p') [(Str.ofString "begun", W.own p)] = [(Str.ofString "begun", .own p')] := by simp [vg]
    rw [ep]
    exact hR1 _ _ ⟨by rw [show decide ((b.length : Int) = 1) = decide (b.length = 1) from decide_eq_decide.mpr (by omega)], p', hp', rfl⟩
  rintro _ O1 ⟨rfl, p', hp', e1⟩
  obtain ⟨n1, n2, n3⟩ := ZU hx hp' [] e1
  walk_at "wd"
  have al : (c ≠ 126 ∨ b.length = 1) → yI [sgW c] O1 fun x O1 => ∀ (p : Addr), O1 p = none → Clo R (.own p) (updO O1 p (.lst [x])) := fun z => by
    rw [if_pos z] at h
    refine ⟨c, rfl, fun q hq => ?_⟩
    obtain ⟨r1, r2, r3, r4, r5⟩ := vn (L := [.d (zv c)]) n1 n2 n3 hq
    exact .inl (h q p' _ r1 r2 (.inr hp') r3 r4 r5)
  rw [eo]
  simp only [vm]
  by_cases hc : c = 126
  · rw [if_pos hc]
    by_cases hl1 : b.length = 1
    · rw [if_pos hl1]; exact al (.inr hl1)
    · rw [if_neg hl1]
      rw [if_neg (by rintro (z | z); exact z hc; exact hl1 z)] at h
      have ea : yj O1 (.own p') (sgW c) = some (updO O1 p' (.lst ([126].map sgW))) := by
        simp only [yj, n1.p]
        rw [if_pos (by simp), hc]
        rfl
      obtain ⟨m1, m2, m3⟩ := ZV n1 [126]
      refine ⟨C, dx, _, n1.x, T.st.cl, T.st.n_begun, _, yl, .inl ⟨rfl, by simp [zr, n1.p]⟩, _, ea, fun q hq => ?_⟩
      have m4 : Ho O (updO O1 p' (.lst ([126].map sgW))) x p := fun a ha h1 h2 => by
        rw [ze (fun e => ha (by rw [e]; exact hp'))]
        exact n2 a ha h1 h2
      obtain ⟨r1, r2, r3, r4, r5⟩ := vn (L := []) m1 m4 (fun a ha => n3 a (m3 a ha)) hq
      exact .inl (h q p' _ r1 r2 (.inr hp') r3 r4 r5)
  · rw [if_neg hc]; exact al (.inl hc)
theorem u3 (F : Fun K "read" "Reader.read" zG f fd) (T : Txt K mg C) (JY : CalT P w K mg base 3 "read_sign" C (zc K (jn C))) : FnOk P w K mg base CX0 4 f fd ["self", "text"] (zc K (jq C)) := by
  have nd := xQ.nd
  apply F.okV xQ (by rintro _ _ _ ⟨x, dx, p, b, z, rfl, _⟩; rfl) (fun cdv A outer sh H E hr => (zb (zm (i := 2) nd rfl (Or.inl rfl) (zT qn))
      (zb (x9 PassesOwn.never rfl (jc (pv 1)) (zI (i := 3) nd rfl (Or.inl rfl))
      (zg (yw (zW (K := K) rfl PySem.F.plainAttrs_list PySem.F.slot_list_extend PySem.F.type_list_extend Zr (pv 2) (QA.pa (qc (xl JY (hr.mono (by decide)) (pv 0) (QA.pa (qc (pv 3) qn))) qn))))))
      (zg (zn (pv 2))))))
  · walk_at "ref"
  rintro _ O R ⟨x, dx, p, b, z, rfl, hx, hg, hz, hl, h⟩
  have hsg : ∀ i w, (yv z)[i]? = some w → ∃ c, z.cps.toList[i]? = some c ∧ w = sgW c := fun i w e => by
    unfold yv at e
    rw [List.getElem?_map] at e
    obtain ⟨c, e1, rfl⟩ := Option.map_eq_some_iff.mp e
    exact ⟨c, e1, rfl⟩
  have hsl : (yv z).length = z.cps.toList.length := by unfold yv; rw [List.length_map]
  have hzl : z.length = z.cps.toList.length := rfl
  have hz' := hz
  walk_at "wd"
  refine fun fo hfo => ⟨by simpa using hz', ?_⟩
  have e0 : fo ≠ x := fun e => by rw [e, hx.x] at hfo; cases hfo
  have e1 : fo ≠ p := fun e => by rw [e, hx.p] at hfo; cases hfo
  refine yC.by (fun i ρ O' => (∃ v3, ρ = [some (.own x), some (.d (.str z)), some (.own fo), v3]) ∧ O' fo = some (.lst ((rdF b (z.cps.toList.take i)).2.map .d)) ∧ Ho O O' x p ∧ ∃ p', RdAt C O' x dx p' (rdF b (z.cps.toList.take i)).1 ∧ (p' = p ∨ O p' = none) ∧ fo ≠ p') ⟨⟨_, rfl⟩, zi, fun a ha _ _ => by rw [ze (fun e => ha (by rw [e]; exact hfo))], p, ⟨by rw [ze (Ne.symm e0)]; exact hx.x, by rw [ze (Ne.symm e1)]; exact hx.p⟩, .inl rfl, e1⟩ (fun i ρ O' h => trivial) ?_ ?_
  · rintro i w _ O2 e ⟨⟨v3, rfl⟩, hf2, ho2, p2, hx2, hp2, hfp⟩ R2 hR2
    obtain ⟨c, hc, rfl⟩ := hsg i w e
    have hi := (List.getElem?_eq_some_iff.mp hc).1
    have et : z.cps.toList.take (i + 1) = z.cps.toList.take i ++ [c] := by rw [List.take_succ, hc]; rfl
    obtain ⟨g1, g2, g3⟩ := uy (z.cps.toList.take i) hg
    rw [List.length_take] at g2 g3
    have hsn := Xd b (z.cps.toList.take i) c
    rw [← et] at hsn
    obtain ⟨g4, g5, g6⟩ := ZQ g1 c
    simp only [ur]
    walk_at "wd"
    refine ⟨.inl ⟨rfl, by simp [zr, hf2]⟩, dx, _, hx2.x, by simp; decide, x, dx, p2, _, c, rfl, hx2, g1, by omega, fun q p3 O3 r1 r2 r3 r4 r5 r6 => ?_⟩
    have hf3 : O3 fo = _ := (r2 fo (by rw [hf2]; simp) e0 hfp).trans hf2
    have ff : fo ≠ p3 := fun e => by
      rcases r3 with z | z
      · exact hfp (e.trans z)
      · rw [← e, hf2] at z; cases z
    refine ⟨q, rfl, _, hf3, _, r6, by rw [List.length_map, List.length_map]; omega, hR2 _ _ ⟨⟨_, rfl⟩, ?_, fun a ha h1 h2 => ?_, p3, ⟨?_, ?_⟩, ?_, ff⟩⟩
    · rw [zi, hsn, List.map_append]
    · have n1 : a ≠ fo := fun e => ha (by rw [e]; exact hfo)
      have n2 : O2 a = O a := ho2 a ha h1 h2
      have n3 : a ≠ p2 := fun e => by
        rcases hp2 with z | z
        · exact h2 (e.trans z)
        · exact ha (by rw [e]; exact z)
      rw [ze n1, r2 a (by rw [n2]; exact ha) h1 n3, n2]
    · rw [ze (Ne.symm e0)]; exact r1.x
    · rw [ze (Ne.symm ff), hsn]; exact r1.p
    · rcases r3 with z | z
      · rw [z]; exact hp2
      · by_cases y : p3 = p
        · exact .inl y
        · refine .inr (Classical.byContradiction fun n => ?_)
          have nx : p3 ≠ x := fun e => by rw [e, hx2.x] at z; cases z
          rw [ho2 p3 n nx y] at z
          exact n z
  · rintro _ O2 ⟨⟨v3, rfl⟩, hf2, ho2, p2, hx2, hp2, hfp⟩
    rw [hsl, List.take_length] at hf2 hx2
    walk_at "wd"
    exact .inl (h fo p2 O2 hfo hf2 hx2 ho2 hp2 hfp)
end
section
variable {P : Program} {w : World} {K : PySem.W.Frag} {mg : Str → Option Value} {base : Heap} {f : Addr} {fd : FuncData} {C : Addr}
theorem qy (F : Fun K "_law_parted" "_law_parted" yV f fd) (T : Txt K mg C) : FnOk P w K mg base CX0 1 f fd ["_law_body_here"] (zc K jr) := by
  have nd := xR.nd
  apply F.okV xR (by rintro _ _ _ ⟨z, rfl, _⟩; rfl) (fun cdv A outer sh H E hr => (zb (zm (i := 1) nd rfl (Or.inl rfl) (zT qn))
      (zb (zm (i := 2) nd rfl (Or.inl rfl) zd)
      (zb (x9 PassesOwn.never rfl (jc (zk zA (pv 0) zd)) (zI (i := 3) nd rfl (Or.inl rfl))
      (zb (zL (zl xu (pv 3) zd (zp _)) (zb (zm (i := 2) nd rfl (Or.inl rfl) (zk zA (pv 2) (pv 3)))
      (zg vQ)) zB)
      (zb (zL (zl ki (zE zZ (by rfl) T.n_len (by rfl) (QA.pa (qc (pv 2) qn))) zf (zp _)) (zg (zn yz)) zB)
      (zb (zm (i := 4) nd rfl (Or.inl rfl) yz)
      (zb (x9 PassesOwn.never rfl (jc (pv 2)) (zI (i := 5) nd rfl (Or.inl rfl))
      (zg (zm (i := 4) nd rfl (Or.inl rfl) (zk yr (zk xM zf (Qv (K := K) rfl (pv 4) (qK zf))) (zW (K := K) rfl PySem.F.plainAttrs_str PySem.F.slot_str_index PySem.F.type_str_index (Y3 rfl) zd (QA.pa (qc (pv 5) qn)))))))
      (zb (yw (zW (K := K) rfl PySem.F.plainAttrs_list PySem.F.slot_list_append PySem.F.type_list_append yb (pv 1) (QA.pa (qc (pv 4) qn))))
      (zg (zm (i := 2) nd rfl (Or.inl rfl) zd))))))))
      (zg (zn (xg (zl qA (zE (uu (K := K) rfl) (by rfl) T.n_len (by rfl) (QA.pa (qc (pv 1) qn))) zf (zp _)) (xw (ZC (K := K) rfl) (by rfl) T.n_tuple rfl (QA.pa (qc (pv 1) qn))) yz)))))))
  · walk_at "ref"
  rintro _ O R ⟨z, rfl, hz9, hz, h⟩
  have es : Str.ofString ";" = zD := rfl
  refine k6 (fun ρ' O' => ∃ b, ρ' = [some (.d (.str z)), some (.own b), some (.d (.str ⟨#[]⟩)), none, none, none] ∧ O' b = some (.lst []) ∧ Old O O' ∧ O b = none) (fun R1 hR1 => ?_) ?_
  · walk_at "wd"
    exact fun b hb => hR1 _ _ ⟨b, rfl, zi, Old.refl.upd hb, hb⟩
  rintro _ O1 ⟨b, rfl, hb1, ho1, hb0⟩
  refine zC (fun ρ' O' => ∃ v2 v3 v4 v5, ∃ ws : List (List Nat), ρ' = [some (.d (.str z)), some (.own b), v2, v3, v4, v5] ∧ O' b = some (.lst ((ws.map yd).map .d)) ∧ ws = (spF z.cps.toList).1 ++ [(spF z.cps.toList).2] ∧ (∀ w ∈ ws, w.length ≤ 3) ∧ Old O O') (fun R1 hR1 => ?_) ?_
  · have ecs : (z ++ zD).cps.toList = z.cps.toList ++ [59] := zV
    have hlen := hz9
    have hcs : ∀ c ∈ (z ++ zD).cps.toList, c = 59 ∨ (48 ≤ c ∧ c ≤ 57) := fun c hc => by
      rw [ecs] at hc
      rcases List.mem_append.mp hc with hc | hc
      · exact hz.2 c hc
      · exact .inl (List.mem_singleton.mp hc)
    have hcl : (z ++ zD).cps.toList.length = z.cps.toList.length + 1 := by rw [ecs]; simp
    rw [zu] at hlen
    walk_at "wd"
    rw [es]
    refine ⟨by rw [zu, show zD.length = 1 from rfl, sizeLine_eq]; omega, fun i hi => ?_, ?_⟩
    · rcases hcs _ (show (z ++ zD).cps[i] ∈ (z ++ zD).cps.toList from Array.getElem_mem_toList hi) with e | e <;> omega
    generalize hcsE : (z ++ zD).cps.toList = cs at *
    have hsg : yv (z ++ zD) = cs.map fun c => .d (.str ⟨#[c]⟩) := by unfold yv; rw [hcsE]
    rw [hsg]
    refine yC.by (fun i ρ O' => ∃ v3 v4 v5 w, ρ = [some (.d (.str z)), some (.own b), some (.d (.str w)), v3, v4, v5] ∧ O' b = some (.lst (((spF (cs.take i)).1.map yd).map .d)) ∧ w.cps.toList = (spF (cs.take i)).2 ∧ okD w ∧ (∀ d ∈ (spF (cs.take i)).1, d.length ≤ 3) ∧ Old O O') ⟨_, _, _, _, rfl, hb1, rfl, fun c hc => (by cases hc), fun d hd => (by cases hd), ho1⟩ (fun _ _ _ _ => trivial) ?_ ?_
    · rintro i u _ O3 hu ⟨v3, v4, v5, w, rfl, hb3, hw, hwd, hd3, ho3⟩ R2 hR2
      rw [List.getElem?_map] at hu
      cases hc : cs[i]? with
      | none => rw [hc] at hu; cases hu
      | some c =>
        rw [hc] at hu
        cases hu
        have hi := (List.getElem?_eq_some_iff.mp hc).1
        have htk : cs.take (i + 1) = cs.take i ++ [c] := by
          rw [List.take_add_one, hc]; rfl
        have hcm : c ∈ cs := List.mem_of_getElem? hc
        rw [htk, xo] at hR2
        have hwl : w.cps.toList.length ≤ 90001 := by
          rw [hw]
          have : ∀ l : List Nat, (spF l).2.length ≤ l.length := fun l => by
            have key : ∀ (l : List Nat) (r : List (List Nat) × List Nat), (l.foldl spS r).2.length ≤ r.2.length + l.length := by
              intro l
              induction l with
              | nil => intro r; simp
              | cons a l ih =>
                intro r
                have := ih (spS r a)
                simp only [List.foldl_cons, List.length_cons]
                refine Nat.le_trans this ?_
                unfold spS
                split <;> simp <;> omega
            have z := key l ([], [])
            simpa [spF] using z
          have h1 := this (cs.take i)
          have h2 := List.length_take_le i cs
          omega
        simp only [ur]
        by_cases h59 : c = 59
        · subst h59
          have hS : spS (spF (cs.take i)) 59 = ((spF (cs.take i)).1 ++ [(spF (cs.take i)).2], []) := if_pos rfl
          rw [hS] at hR2
          refine zC (fun ρ' O' => ρ' = [some (.d (.str z)), some (.own b), some (.d (.str w)), some (.d (.str ⟨#[59]⟩)), v4, v5] ∧ O3 = O') (fun R3 hR3 => ?_) ?_
          · walk_at "wd"
            simp [es, show (⟨#[59]⟩ : Str) = zD from rfl]
            exact hR3 _ _ ⟨rfl, rfl⟩
          rintro _ _ ⟨rfl, rfl⟩
          refine zC (fun ρ' O' => w.cps.toList.length ≤ 3 ∧ ρ' = [some (.d (.str z)), some (.own b), some (.d (.str w)), some (.d (.str ⟨#[59]⟩)), v4, v5] ∧ O3 = O') (fun R3 hR3 => ?_) ?_
          · walk_at "wd"
            refine ⟨by rw [zu, sizeLine_eq]; omega, ?_⟩
            by_cases h3 : 3 < w.cps.toList.length
            · rw [if_pos (by rw [zu]; omega)]
              have hmem : w.cps.toList ∈ (spF z.cps.toList).1 ++ [(spF z.cps.toList).2] := by
                have e1 : (spF cs).1 = (spF z.cps.toList).1 ++ [(spF z.cps.toList).2] := by
                  rw [ecs, xo]
                  show (if (59 : Nat) = 59 then _ else _ : List (List Nat) × List Nat).1 = _
                  rw [if_pos rfl]
                rw [← e1]
                have e2 : cs = cs.take (i + 1) ++ cs.drop (i + 1) := (List.take_append_drop _ _).symm
                have e3 : spF cs = (cs.drop (i + 1)).foldl spS (spF (cs.take (i + 1))) := by
                  conv => lhs; rw [e2]
                  unfold spF
                  rw [List.foldl_append]
                obtain ⟨more, e4⟩ := V8 (spF (cs.take (i + 1))) (cs.drop (i + 1))
                rw [e3, e4, htk, xo, hS, hw]
                simp
              have h0 := h O3 ho3
              unfold ye xx at h0
              rw [if_pos (.inr (List.any_eq_true.mpr ⟨_, hmem, decide_eq_true h3⟩))] at h0
              exact .inl h0
            · rw [if_neg (by rw [zu]; omega)]
              exact hR3 _ _ ⟨by omega, rfl, rfl⟩
          rintro _ _ ⟨h3, rfl, rfl⟩
          refine zC (fun ρ' O' => ρ' = [some (.d (.str z)), some (.own b), some (.d (.str w)), some (.d (.str ⟨#[59]⟩)), some (.d .none), v5] ∧ O3 = O') (fun R3 hR3 => ?_) ?_
          · walk_at "wd"
            exact hR3 _ _ ⟨rfl, rfl⟩
          rintro _ _ ⟨rfl, rfl⟩
          refine zC (fun ρ' O' => ∃ v5, ρ' = [some (.d (.str z)), some (.own b), some (.d (.str w)), some (.d (.str ⟨#[59]⟩)), some (.d (yd w.cps.toList)), v5] ∧ O3 = O') (fun R3 hR3 => ?_) ?_
          · walk_at "wd"
            have hwd2 : ∀ c ∈ w.cps.toList, 48 ≤ c ∧ c ≤ 57 := hwd
            refine ⟨fun i hi => ?_, ?_⟩
            · have := hwd2 _ (show w.cps[i] ∈ w.cps.toList from Array.getElem_mem_toList hi)
              omega
            refine yC.by (fun j ρ O' => ∃ v5, ρ = [some (.d (.str z)), some (.own b), some (.d (.str w)), some (.d (.str ⟨#[59]⟩)), some (.d (yd (w.cps.toList.take j))), v5] ∧ O3 = O') ⟨_, rfl, rfl⟩ (fun _ _ _ _ => trivial) ?_ ?_
            · rintro j u _ _ hu ⟨v5, rfl, rfl⟩ R4 hR4
              unfold yv at hu
              rw [List.getElem?_map] at hu
              cases hc : w.cps.toList[j]? with
              | none => rw [hc] at hu; cases hu
              | some c =>
                rw [hc] at hu
                cases hu
                have htk : w.cps.toList.take (j + 1) = w.cps.toList.take j ++ [c] := by
                  rw [List.take_add_one, hc]; rfl
                obtain ⟨c0, c1⟩ := hwd2 c (List.mem_of_getElem? hc)
                have hfind : Txt.find (Str.ofString "0123456789") ⟨#[c]⟩ = (c : Int) - 48 := by
                  have : ∀ k : _root_.Fin 10, Txt.find (Str.ofString "0123456789") ⟨#[48 + k.val]⟩ = ((48 + k.val : Nat) : Int) - 48 := by decide +kernel
                  have := this ⟨c - 48, by omega⟩
                  rw [show 48 + (c - 48) = c by omega] at this
                  exact this
                rw [htk] at hR4
                generalize w.cps.toList.take j = l at *
                have nx : ∀ n : Int, n = ((NumText.digitsVal l : Nat) : Int) → R4 [some (.d (.str z)), some (.own b), some (.d (.str w)), some (.d (.str ⟨#[59]⟩)), some (.d (.int (10 * n + Txt.find (Str.ofString "0123456789") ⟨#[c]⟩))), some (.d (.str ⟨#[c]⟩))] O3 := fun n hn => by
                  have e : PyData.int (10 * n + Txt.find (Str.ofString "0123456789") ⟨#[c]⟩) = yd (l ++ [c]) := by
                    unfold yd
                    rw [if_neg (by simp), hfind, hn]
                    congr 1
                    show _ = ((NumText.digitsVal (l ++ [c]) : Nat) : Int)
                    unfold NumText.digitsVal
                    rw [List.foldl_append]
                    simp only [List.foldl_cons, List.foldl_nil]
                    omega
                  rw [e]
                  exact hR4 _ _ ⟨_, rfl, rfl⟩
                by_cases hl : l = []
                · have ev : yd l = .none := if_pos hl
                  rw [ev]
                  walk_at "wd"
                  refine ⟨mulL (by decide) (by decide), .inr (.inl ⟨rfl, _, rfl⟩), by rw [hfind]; omega, ?_⟩
                  have := nx 0 (by rw [hl]; rfl)
                  simpa using this
                · have ev : yd l = .int ((NumText.digitsVal l : Nat) : Int) := if_neg hl
                  rw [ev]
                  walk_at "wd"
                  split
                  · rename_i e0
                    refine ⟨mulL (by decide) (by decide), .inr (.inl ⟨rfl, _, rfl⟩), by rw [hfind]; omega, ?_⟩
                    have := nx 0 (by rw [e0]; rfl)
                    simpa using this
                  · exact ⟨mulL (by decide) (by decide), .inr (.inl ⟨rfl, _, rfl⟩), by rw [hfind]; omega, nx _ rfl⟩
            · rintro _ _ ⟨v5, rfl, rfl⟩
              refine hR3 _ _ ⟨v5, ?_, rfl⟩
              rw [show (yv w).length = w.cps.toList.length by simp [yv], List.take_length]
          rintro _ _ ⟨v5', rfl, rfl⟩
          have e2 : ∀ x, yj O3 (.own b) x = some (updO O3 b (.lst (((spF (cs.take i)).1.map yd).map .d ++ [x]))) := fun x => by
            simp only [yj, hb3]
            rw [if_pos (by
              rw [List.length_map, List.length_map]
              have : ∀ l : List Nat, (spF l).1.length ≤ l.length := fun l => by
                have key : ∀ (l : List Nat) (r : List (List Nat) × List Nat), (l.foldl spS r).1.length ≤ r.1.length + l.length := by
                  intro l
                  induction l with
                  | nil => intro r; simp
                  | cons a l ih =>
                    intro r
                    have := ih (spS r a)
                    simp only [List.foldl_cons, List.length_cons]
                    refine Nat.le_trans this ?_
                    unfold spS
                    split <;> simp <;> omega
                have z := key l ([], [])
                simpa [spF] using z
              have h1 := this (cs.take i)
              have h2 := List.length_take_le i cs
              omega)]
          walk_at "wd"
          simp [e2]
          refine ⟨.inl ⟨rfl, by simp [zr, hb3]⟩, hR2 _ _ ⟨_, _, _, _, rfl, ?_, rfl, fun c hc => (by cases hc), fun d hd => ?_, ho3.upd hb0⟩⟩
          · rw [zi, hw]; simp
          · rcases List.mem_append.mp hd with hd | hd
            · exact hd3 d hd
            · cases List.mem_singleton.mp hd; rw [← hw]; exact h3
        · have hS : spS (spF (cs.take i)) c = ((spF (cs.take i)).1, (spF (cs.take i)).2 ++ [c]) := if_neg h59
          rw [hS] at hR2
          have hne : ¬ ((⟨#[c]⟩ : Str) = zD) := fun e => h59 (by
            have := congrArg (fun x : Str => x.cps.toList) e
            exact List.singleton_inj.mp this)
          have hdg : 48 ≤ c ∧ c ≤ 57 := (hcs c hcm).resolve_left h59
          walk_at "wd"
          simp [es, hne]
          refine ⟨by rw [zu, show (⟨#[c]⟩ : Str).length = 1 from rfl, sizeLine_eq]; omega, hR2 _ _ ⟨_, _, _, _, rfl, hb3, by rw [zV, hw], fun x hx => ?_, hd3, ho3⟩⟩
          rw [zV] at hx
          rcases List.mem_append.mp hx with hx | hx
          · exact hwd x hx
          · cases List.mem_singleton.mp hx; exact hdg
    · rintro _ O3 ⟨v3, v4, v5, w, rfl, hb3, hw, hwd, hd3, ho3⟩
      have el : cs.take (cs.map fun c => (W.d (.str ⟨#[c]⟩) : W)).length = cs := by rw [List.length_map, List.take_length]
      rw [el] at hb3 hd3
      have e1 : (spF cs).1 = (spF z.cps.toList).1 ++ [(spF z.cps.toList).2] := by
        rw [ecs, xo]
        show (if (59 : Nat) = 59 then _ else _ : List (List Nat) × List Nat).1 = _
        rw [if_pos rfl]
      exact hR1 _ _ ⟨_, _, _, _, (spF cs).1, rfl, hb3, e1, hd3, ho3⟩
  rintro _ O2 ⟨v2, v3, v4, v5, ws, rfl, hb2, hws, hw3, ho2⟩
  have h0 := h O2 ho2
  unfold ye xx at h0
  rw [← hws] at h0
  have hany : ¬ (ws.any fun w => decide (3 < w.length)) = true := fun z => by
    obtain ⟨w, hw, e⟩ := List.any_eq_true.mp z
    have := hw3 w hw
    have := of_decide_eq_true e
    omega
  walk_at "wd"
  refine ⟨ws.length, by simp [uM, yh, zr, hb2], ?_⟩
  by_cases h6 : 6 < ws.length
  · rw [if_neg (by omega)]
    rw [if_pos (.inl h6)] at h0
    exact .inl h0
  · rw [if_pos (by omega)]
    rw [if_neg (by rintro (z | z); exact h6 z; exact hany z)] at h0
    exact ⟨ws.map yd, by simp only [kD, yh, zr, hb2, Option.bind_some, zM], .inl h0⟩
theorem u4 (F : Fun K "_law_outside" "_law_outside" yL f fd) (T : Txt K mg C) : FnOk P w K mg base CX0 1 f fd ["_law_sign"] (zc K yI) := by
  have nd := xz.nd
  apply F.okV xz (by rintro _ _ _ ⟨c, rfl, _⟩; rfl) (fun cdv A outer sh H E hr => (zg (zn (xg (zl yu (pv 0) zd (zp _)) (zS (qc zd qn)) (xg (zl yu (pv 0) zd (zp _)) (zS (qc zd qn)) (zS (qc zd (qc (pv 0) qn))))))))
  · walk_at "ref"
  rintro _ O R ⟨c, rfl, h⟩
  have en : Str.ofString "\n" = ⟨#[10]⟩ := by decide +kernel
  have et : Str.ofString "\t" = ⟨#[9]⟩ := by decide +kernel
  walk_at "wd"
  unfold zv at h
  rw [en, et]
  simp only [vm]
  by_cases q : c = 10
  · rw [if_pos q] at h ⊢; exact .inl h
  · rw [if_neg q] at h ⊢
    by_cases q2 : c = 9
    · rw [if_pos q2] at h ⊢; exact .inl h
    · rw [if_neg q2] at h ⊢; exact .inl h
theorem jG (F : Fun K "_law_read" "_law_read" xF f fd) (T : Txt K mg C) (J4 : Cal P w K mg base 1 "_law_outside" [] (zc K yI)) (J5 : Cal P w K mg base 1 "_law_parted" [] (zc K jr)) : FnOk P w K mg base CX0 2 f fd ["_law_text"] (zc K jt) := by
  have nd := vv.nd
  apply F.okV vv (by rintro _ _ _ ⟨z, rfl, _⟩; rfl) (fun cdv A outer sh H E hr => (zb (zm (i := 1) nd rfl (Or.inl rfl) zd)
      (zb (zm (i := 2) nd rfl (Or.inl rfl) (zT qn))
      (zb (zm (i := 3) nd rfl (Or.inl rfl) zf)
      (zb (qM PassesOwn.never (zl qA (pv 3) (zE zZ (by rfl) T.n_len (by rfl) (QA.pa (qc (pv 0) qn))) (zp _)) (zb (zm (i := 4) nd rfl (Or.inl rfl) (zk yr (pv 3) zf))
      (zb (zL (zl xu (zQ yB (pv 0) (pv 3) (fun _ _ => rfl)) zd (zp _)) (zb (yw (zW (K := K) rfl PySem.F.plainAttrs_list PySem.F.slot_list_append PySem.F.type_list_append yb (pv 2) (QA.pa (qc (zH J4 (hr.mono (by decide)) rfl (QA.pa (qc (zQ yB (pv 0) (pv 3) (fun _ _ => rfl)) qn))) qn))))
      (zb (zm (i := 3) nd rfl (Or.inl rfl) (pv 4))
      (zg vQ))) zB)
      (zb (qM PassesOwn.never (PW.pt (xG (zl qA (pv 4) (zE zZ (by rfl) T.n_len (by rfl) (QA.pa (qc (pv 0) qn))) (zp _)) (y6 (zl u7 (zQ yB (pv 0) (pv 4) (fun _ _ => rfl)) zd (by with_unfolding_all rfl))))) (zg (zm (i := 4) nd rfl (Or.inl rfl) (zk yr (pv 4) zf))))
      (zb (zL (zl yu (pv 4) (zE zZ (by rfl) T.n_len (by rfl) (QA.pa (qc (pv 0) qn))) (zp _)) (zg (zn (j8 (qc (pv 2) (qc (xT uR (pv 0) (y7 (pv 3)) jN) qn))))) zB)
      (zb (zm (i := 5) nd rfl (Or.inl rfl) (zH J5 (hr.mono (by decide)) rfl (QA.pa (qc (xT uR (pv 0) (y7 (zk yr (pv 3) zf)) (y7 (pv 4))) qn))))
      (zb (zL (zl u7 (zQ yB (pv 0) (pv 4) (fun _ _ => rfl)) (zk zA (pv 1) (VW (K := K) rfl PySem.F.plainAttrs_str PySem.F.slot_str_upper PySem.F.type_str_upper Xi (pv 1))) (by with_unfolding_all rfl)) (zg (zm (i := 2) nd rfl (Or.inl rfl) (zk (Ud (K := K) rfl) (pv 2) (zk UP (zT (qc (zS (qc zd (qc (zQ yB (pv 0) (pv 4) (fun _ _ => rfl)) (qc (pv 5) qn)))) qn)) (xw Zj (by rfl) T.n_int rfl (QA.pa (qc (xH Vg (pv 5) yz (zp _)) qn))))))) (zg (zL (PW.pt (xG (zl yu (zQ yB (pv 0) (pv 4) (fun _ _ => rfl)) zd (zp _)) (y6 (zl yu (pv 4) (zk yr (pv 3) zf) (zp _))))) (zg (yw (zW (K := K) rfl PySem.F.plainAttrs_list PySem.F.slot_list_append PySem.F.type_list_append yb (pv 2) (QA.pa (qc (zS (qc zd (qc zd qn))) qn))))) (zg (zm (i := 4) nd rfl (Or.inl rfl) (zk UG (pv 4) zf))))))
      (zg (zm (i := 3) nd rfl (Or.inl rfl) (zk yr (pv 4) zf))))))))))
      (zg (zn (j8 (qc (pv 2) (qc zd qn))))))))))
  · walk_at "ref"
  rintro _ O R ⟨z, rfl, hT, hz, h⟩
  have hsl : z.length ≤ sizeLine := by rw [sizeLine_eq]; omega
  have eo : Str.ofString "~" = ⟨#[126]⟩ := by decide +kernel
  refine Jm (fun ρ' O' => ∃ fo, ρ' = [some (.d (.str z)), some (.d (.str ym)), some (.own fo), some (.d (.int 0)), none, none] ∧ O fo = none ∧ O' = updO O fo (.lst [])) (fun R1 hR1 => ?_) ?_
  · walk_at "wd"
    exact fun fo hfo => hR1 _ _ ⟨fo, rfl, hfo, rfl⟩
  rintro _ O1 ⟨fo, rfl, hfo, rfl⟩
  generalize hL : z.cps.toList = L at h
  have hlen : z.length = L.length := by rw [← hL]; rfl
  have hat : ∀ (j : Nat), j < L.length → ∃ c, L[j]? = some c ∧ c < 128 ∧ atI z.cps.toList (j : Int) = some c := fun j hj => ⟨L[j], List.getElem?_eq_getElem hj, hT _ (by rw [hL]; exact List.getElem_mem hj), by rw [hL]; exact y8 (List.getElem?_eq_getElem hj)⟩
  refine zC (fun ρ' O' => ∃ fo v3 v4 v5, ρ' = [some (.d (.str z)), some (.d (.str ym)), some (.own fo), v3, v4, v5] ∧ Old O O' ∧ O fo = none ∧ O' fo = some (.lst ((rdF [] L).2.map .d)) ∧ (rdF [] L).1 = []) (fun R1 hR1 => ?_) ?_
  · refine j7 (fun m ρ O' => ∃ (at' : Nat) (out : List PyData) (fo : Addr) (v4 v5 : Option W), m = L.length - at' ∧ at' ≤ L.length ∧ ρ = [some (.d (.str z)), some (.d (.str ym)), some (.own fo), some (.d (.int at')), v4, v5] ∧ Old O O' ∧ O fo = none ∧ O' fo = some (.lst (out.map .d)) ∧ out.length ≤ at' ∧ rdF [] L = ((rdF [] (L.drop at')).1, out ++ (rdF [] (L.drop at')).2)) L.length ⟨0, [], fo, _, _, rfl, Nat.zero_le _, rfl, Old.refl.upd hfo, hfo, zi, Nat.zero_le _, by simp⟩ ?_
    rintro m _ O2 ⟨at', out, fo, v4, v5, rfl, hle, rfl, ho2, hfo2, hf2, hol, hrd⟩ R2 hR2
    walk_at "wd"
    refine ⟨hsl, ?_⟩
    by_cases hlt : at' < z.length
    · rw [if_pos hlt]
      obtain ⟨c, hc, hc1, hca⟩ := hat at' (by omega)
      have hdr := vo hc
      have e1 : (at' : Int) + 1 = ((at' + 1 : Nat) : Int) := by omega
      refine ⟨hsl, c, hca, ?_⟩
      rw [eo]
      simp only [vm]
      by_cases h126 : c = 126
      · rw [if_pos h126]
        subst h126
        rw [e1]
        refine Z2 (fun m ρ O' => ∃ bh : Nat, m = L.length - bh ∧ at' + 1 ≤ bh ∧ bh ≤ L.length ∧ (∀ c ∈ (L.drop (at' + 1)).take (bh - (at' + 1)), c = 59 ∨ (48 ≤ c ∧ c ≤ 57)) ∧ ρ = [some (.d (.str z)), some (.d (.str ym)), some (.own fo), some (.d (.int at')), some (.d (.int bh)), v5] ∧ O2 = O') (fun ρ O' => ∃ bh : Nat, at' + 1 ≤ bh ∧ bh ≤ L.length ∧ (∀ c ∈ (L.drop (at' + 1)).take (bh - (at' + 1)), c = 59 ∨ (48 ≤ c ∧ c ≤ 57)) ∧ (bh < L.length → ∀ c, L[bh]? = some c → ¬(zY c ∨ c = 59)) ∧ ρ = [some (.d (.str z)), some (.d (.str ym)), some (.own fo), some (.d (.int at')), some (.d (.int bh)), v5] ∧ O2 = O') (L.length - (at' + 1)) ⟨at' + 1, rfl, Nat.le_refl _, by omega, fun c hc => (by rw [Nat.sub_self, List.take_zero] at hc; cases hc), rfl, rfl⟩ ?_ ?_
        · rintro m _ _ ⟨bh, rfl, b1, b2, b3, rfl, rfl⟩ R3 S3 hR3 hS3
          walk_at "wd"
          refine ⟨hsl, ?_⟩
          by_cases hb : bh < z.length
          · rw [if_pos hb]
            obtain ⟨c2, g1, g2, g3⟩ := hat bh (by omega)
            refine ⟨hsl, c2, g3, ?_⟩
            rw [Uk g2]
            by_cases hf : zY c2 ∨ c2 = 59
            · rw [if_pos (decide_eq_true hf), show (bh : Int) + 1 = ((bh + 1 : Nat) : Int) by omega]
              refine hR3 (L.length - (bh + 1)) _ _ (by omega) ⟨bh + 1, rfl, by omega, by omega, fun d hd => ?_, rfl, rfl⟩
              rw [Z3 b1 g1] at hd
              rcases List.mem_append.mp hd with z | z
              · exact b3 d z
              · cases List.mem_singleton.mp z
                exact hf.symm
            · rw [if_neg (by simpa using hf)]
              exact hS3 _ _ ⟨bh, b1, b2, b3, fun _ d hd => (by rw [g1] at hd; cases hd; exact hf), rfl, rfl⟩
          · rw [if_neg hb]
            exact hS3 _ _ ⟨bh, b1, b2, b3, fun h => absurd h (by omega), rfl, rfl⟩
        · rintro _ _ ⟨bh, b1, b2, b3, b4, rfl, rfl⟩
          dsimp only
          generalize ht : (L.drop (at' + 1)).take (bh - (at' + 1)) = t at b3
          refine zC (fun ρ' O' => bh < L.length ∧ ρ' = [some (.d (.str z)), some (.d (.str ym)), some (.own fo), some (.d (.int at')), some (.d (.int bh)), v5] ∧ O2 = O') (fun R3 hR3 => ?_) ?_
          · walk_at "wd"
            refine ⟨hsl, ?_⟩
            by_cases hb : bh = L.length
            · rw [if_pos (by omega)]
              have hcut : L.drop at' = 126 :: t := by rw [hdr, ← ht, List.take_of_length_le (by rw [List.length_drop]; omega)]
              have hrd2 := hrd
              rw [hcut, xX b3] at hrd2
              have es : Txt.slice z (some (at' : Int)) none = ⟨(126 :: t).toArray⟩ := by
                apply uV
                rw [j4 (by omega), hL, hcut]
              refine ⟨hsl, [.list out, .str (Txt.slice z (some (at' : Int)) none)], del O2 fo, by simp [frzs, frz, hf2, zM], by show 2 ≤ 1000; omega, .inl ?_⟩
              have := h _ (ka ho2 hfo2)
              rw [hrd2] at this
              simp only [List.append_nil] at this
              rw [es]
              exact this
            · rw [if_neg (by omega)]
              exact hR3 _ _ ⟨by omega, rfl, rfl⟩
          rintro _ _ ⟨b5, rfl, rfl⟩
          obtain ⟨c2, g1, g2, g3⟩ := hat bh b5
          have hcut : L.drop at' = 126 :: t ++ c2 :: L.drop (bh + 1) := by rw [hdr, Xk b1 g1, ht]; rfl
          have hst : Txt.slice z (some ((at' + 1 : Nat) : Int)) (some (bh : Int)) = ⟨t.toArray⟩ := by
            apply uV
            rw [Xb b1 (by omega), hL, ht]
          have htl : t.length ≤ 5000 := by rw [← ht, List.length_take]; omega
          refine zC (fun ρ' O' => ρ' = [some (.d (.str z)), some (.d (.str ym)), some (.own fo), some (.d (.int at')), some (.d (.int bh)), some (.d (ye ⟨t.toArray⟩))] ∧ Old O2 O') (fun R3 hR3 => ?_) ?_
          · walk_at "wd"
            refine ⟨hsl, ?_⟩
            rw [e1, hst]
            exact ⟨_, rfl, by show t.toArray.size ≤ 90000; rw [List.size_toArray]; omega, ⟨by show t.toArray.size ≤ 100000; rw [List.size_toArray]; omega, b3⟩, fun O' ho => hR3 _ _ ⟨rfl, ho⟩⟩
          rintro _ O3 ⟨rfl, ho3⟩
          have hf3 : O3 fo = some (.lst (out.map .d)) := by rw [ho3 fo (by rw [hf2]; simp)]; exact hf2
          have hoo : Old O O3 := ho2.trans' ho3
          refine zC (fun ρ' O' => ∃ (bh' : Nat) (fo' : Addr) (out' : List PyData) (v5 : Option W), ρ' = [some (.d (.str z)), some (.d (.str ym)), some (.own fo'), some (.d (.int at')), some (.d (.int bh')), v5] ∧ Old O O' ∧ O fo' = none ∧ O' fo' = some (.lst (out'.map .d)) ∧ at' ≤ bh' ∧ bh' < L.length ∧ out'.length ≤ bh' + 1 ∧ rdF [] L = ((rdF [] (L.drop (bh' + 1))).1, out' ++ (rdF [] (L.drop (bh' + 1))).2)) (fun R3 hR3 => ?_) ?_
          · walk_at "wd"
            refine ⟨hsl, c2, g3, .inr (.inl ⟨rfl, _, rfl⟩), jv.1, by rw [sizeLine_eq]; exact Nat.le_trans jv.2.2 (by decide), ?_⟩
            rw [Ul g2]
            by_cases hlc : yk c2
            · rw [if_pos (decide_eq_true hlc)]
              refine ⟨hsl, c2, g3, fun p hp => ?_⟩
              have efp : fo ≠ p := fun e => by rw [← e, hf3] at hp; cases hp
              have hrow := Ui (cs := L.drop (bh + 1)) b3 hlc
              have hrw : rwD (126 :: t) c2 = if Xc (ye ⟨t.toArray⟩) = true then [] else [.tuple [.str (Str.ofString "row"), .str (sgS c2), ye ⟨t.toArray⟩]] := rfl
              have op : O p = none := Classical.byContradiction fun n => by rw [hoo p n] at hp; exact n hp
              rcases xW ⟨t.toArray⟩ with e | ⟨ds, e, _, _⟩
              · rw [e] at hrw ⊢
                have hrw2 : rwD (126 :: t) c2 = [] := hrw
                refine ⟨0, .inl ⟨rfl, rfl⟩, by decide, by decide, by decide, out.map .d, by simp only [zr, ze efp, hf3], _, rfl, by simp; omega, fun p1 hp1 => hR3 _ _ ⟨bh, p1, out, _, rfl, ?_, ?_, ?_, by omega, b5, by omega, ?_⟩⟩
                · exact (hoo.upd op).upd (Classical.byContradiction fun n => by
                    rw [(hoo.upd op) p1 n] at hp1
                    exact n hp1)
                · exact Classical.byContradiction fun n => by
                    rw [(hoo.upd op) p1 n] at hp1
                    exact n hp1
                · rw [zi]; simp
                · rw [hrd, hcut, hrow, hrw2]; simp
              · rw [e] at hrw ⊢
                have hrw2 : rwD (126 :: t) c2 = [.tuple [.str (Str.ofString "row"), .str (sgS c2), .tuple ds]] := hrw
                refine ⟨1, .inr ⟨rfl, rfl⟩, by decide, by decide, by decide, out.map .d, by simp only [zr, ze efp, hf3], _, rfl, by simp; omega, fun p1 hp1 => hR3 _ _ ⟨bh, p1, out ++ [.tuple [.str (Str.ofString "row"), .str (sgS c2), .tuple ds]], _, rfl, ?_, ?_, ?_, by omega, b5, by simp; omega, ?_⟩⟩
                · exact (hoo.upd op).upd (Classical.byContradiction fun n => by
                    rw [(hoo.upd op) p1 n] at hp1
                    exact n hp1)
                · exact Classical.byContradiction fun n => by
                    rw [(hoo.upd op) p1 n] at hp1
                    exact n hp1
                · rw [zi]; simp
                · rw [hrd, hcut, hrow, hrw2]; simp
            · rw [if_neg (by simpa using hlc)]
              have hbc := b4 b5 c2 g1
              refine ⟨hsl, c2, g3, ?_⟩
              by_cases h2 : c2 = 126 ∧ (bh : Int) = (at' : Int) + 1
              · rw [if_pos h2]
                have hbh : bh = at' + 1 := by omega
                have ht0 : t = [] := by rw [← ht, hbh, Nat.sub_self, List.take_zero]
                have ea : yj O3 (.own fo) (.d (.tuple [.str (Str.ofString "sign"), .str ⟨#[126]⟩])) = some (updO O3 fo (.lst ((out ++ [zv 126]).map .d))) := by
                  simp only [yj, hf3]
                  rw [if_pos (by rw [List.length_map]; omega), List.map_append]
                  rfl
                refine ⟨.inl ⟨rfl, by simp [zr, hf3]⟩, _, ea, hR3 _ _ ⟨bh, fo, out ++ [zv 126], _, rfl, hoo.upd hfo2, hfo2, zi, by omega, b5, by simp; omega, ?_⟩⟩
                rw [hrd, hcut, ht0, h2.1, show ([126] ++ 126 :: L.drop (bh + 1) : List Nat) = 126 :: 126 :: L.drop (bh + 1) from rfl, Z1]
                simp
              · rw [if_neg h2]
                have hc3 : ¬(c2 = 126 ∧ t = []) := by
                  rintro ⟨q1, q2⟩
                  refine h2 ⟨q1, ?_⟩
                  have : t.length = 0 := by rw [q2]; rfl
                  rw [← ht, List.length_take, List.length_drop] at this
                  omega
                rw [show (bh : Int) - 1 = ((bh - 1 : Nat) : Int) by omega]
                refine hR3 _ _ ⟨bh - 1, fo, out, _, rfl, hoo, hfo2, hf3, by omega, by omega, by omega, ?_⟩
                rw [hrd, hcut, Uj b3 hlc hbc hc3, show bh - 1 + 1 = bh by omega, vo g1]
          rintro _ O4 ⟨bh', fo', out', v5', rfl, ho4, hfo4, hf4, l1, l2, l3, hrd4⟩
          walk_at "wd"
          rw [show (bh' : Int) + 1 = ((bh' + 1 : Nat) : Int) by omega]
          exact hR2 (L.length - (bh' + 1)) _ _ (by omega) ⟨bh' + 1, out', fo', _, _, rfl, by omega, rfl, ho4, hfo4, hf4, l3, hrd4⟩
      · rw [if_neg h126]
        have ea : yj O2 (.own fo) (.d (zv c)) = some (updO O2 fo (.lst ((out ++ [zv c]).map .d))) := by
          simp only [yj, hf2]
          rw [if_pos (by rw [List.length_map]; omega), List.map_append]
          rfl
        refine ⟨.inl ⟨rfl, by simp [zr, hf2]⟩, hsl, c, hca, c, rfl, _, ea, ?_⟩
        rw [e1]
        refine hR2 (L.length - (at' + 1)) _ _ (by omega) ⟨at' + 1, out ++ [zv c], fo, _, _, rfl, by omega, rfl, ho2.upd hfo2, hfo2, zi, by simp; omega, ?_⟩
        rw [hrd, hdr, Z0 h126]
        simp
    · rw [if_neg hlt]
      have hd0 : L.drop at' = [] := List.drop_eq_nil_iff.mpr (by omega)
      rw [hd0] at hrd
      refine hR1 _ _ ⟨fo, _, _, _, rfl, ho2, hfo2, ?_, ?_⟩
      · rw [hrd, hf2]; simp [rdF]
      · rw [hrd]; rfl
  rintro _ O2 ⟨fo, v3, v4, v5, rfl, ho2, hfo2, hf2, hr⟩
  walk_at "wd"
  refine ⟨[.list (rdF [] L).2, .str (Str.ofString "")], del O2 fo, by simp [frzs, frz, hf2, zM], by show 2 ≤ 1000; omega, .inl ?_⟩
  have := h _ (ka ho2 hfo2)
  rw [hr] at this
  exact this
end
section
variable {P : Program} {w : World} {K : PySem.W.Frag} {mg : Str → Option Value} {base : Heap} {f : Addr} {fd : FuncData} {C : Addr}
theorem Z6 (F : Fun K "_law_is" "_law_is" vw f fd) (T : Txt K mg C) : FnOk P w K mg base CX0 1 f fd ["_law_found", "_law_due"] (zc K Xl) := by
  have nd := uC.nd
  apply F.okV uC (by rintro _ _ _ ⟨a, ds, rfl, _⟩; rfl) (fun cdv A outer sh H E hr => (zb (zL (PW.pt (yM (x6 (yq (zE (qi (K := K) rfl) (by rfl) T.n_isinstance (by rfl) (QA.pa (qc (pv 0) (qc (vy (v := .ty "list") (u := .type "list") rfl T.n_list rfl rfl) qn)))))) (yA (zl (uv (K := K) rfl hr.units) (pv 0) (pv 1) (zp _))))) (zg (zn yX)) zB)
      (zb (x9 PassesOwn.never rfl (v8 (K := K) rfl (pv 0)) (zI (i := 2) nd rfl (Or.inl rfl))
      (zb (zL (PW.pt (yM (x6 (yq (zE (ZK (K := K) rfl) (by rfl) T.n_isinstance (by rfl) (QA.pa (qc (pv 2) (qc (vy (v := .ty "tuple") (u := .type "tuple") rfl T.n_tuple rfl rfl) qn)))))) (yA (PW.pt (xG (zl yu (zQ (ut (K := K) rfl) (pv 2) zf (fun _ _ => rfl)) zd (zp _)) (y6 (x6 (yq (zE (ZK (K := K) rfl) (by rfl) T.n_isinstance (by rfl) (QA.pa (qc (zQ (ut (K := K) rfl) (pv 2) zf (fun _ _ => rfl)) (qc (vy (v := .ty "tuple") (u := .type "tuple") rfl T.n_tuple rfl rfl) qn)))))))))))) (zg (zn yX)) zB)
      (zg (zL (PW.pt (xG (zl yu (zQ (ut (K := K) rfl) (pv 2) zf (fun _ _ => rfl)) zd (zp _)) (y6 (zl (uv (K := K) rfl hr.units) (qD (qU (N := ["_law_number"]) (n := 1) (js := [])) rfl (VV (K := K) rfl (zQ (ut (K := K) rfl) (pv 2) zf (fun _ _ => rfl))) (fun _ _ _ _ => (zI (i := 0) (show List.Nodup (["_law_number"] : List Str) by decide +kernel) rfl (Or.inl rfl))) (fun _ _ _ _ => (Vt (yq (zE (qi (K := K) rfl) (by rfl) T.n_isinstance (by rfl) (QA.pa (qc (pv 0) (qc (vy (v := .ty "bool") (u := .type "bool") rfl T.n_bool rfl rfl) qn))))))) (fun _ _ _ _ => (pv 0))) (yf qn) (zp _))))) (zg (zn yX)) zB))))
      (zg (zn yX)))))
  · walk_at "ref"
  rintro _ O R ⟨a, ds, rfl, ha, hd, hi, h⟩
  obtain ⟨sh, eq⟩ := xY hd
  have sh0 : SeqAt.shaped (.list []) = true := by decide +kernel
  walk_at "wd"
  refine ⟨⟨_, ha⟩, _, by simp only [xm, ha, zM, Option.map_some], _, rfl, sh, sh, ?_⟩
  rw [if_pos eq]
  refine ⟨ds.map .d, by simp only [zr, ha], ?_⟩
  refine yC.by (fun i ρ O' => O = O' ∧ ∃ v2, ρ = [some (.own a), some (.d (.list ds)), v2]) ⟨rfl, _, rfl⟩ (fun i ρ O' h => by rw [← h.1]; simp only [zr, ha]) ?_ ?_
  · rintro i w _ _ e ⟨rfl, v2, rfl⟩ R2 hR2
    rw [List.getElem?_map] at e
    obtain ⟨d, e1, rfl⟩ := Option.map_eq_some_iff.mp e
    rcases hi d (List.mem_of_getElem? e1) with ⟨w, r, rfl, hw⟩ | ⟨s, ps, rfl, pl, hp⟩
    · have at0 : atI (PyData.str w :: r) 0 = some (.str w) := Y9
      walk_at "wd"
      refine ⟨_, at0, rfl, rfl, (iff_of_eq (if_neg fun z => hw (V.str.inj (of_decide_eq_true z)))).mpr ?_⟩
      refine ⟨_, at0, rfl, rfl, (iff_of_eq (if_neg fun z => hw (V.str.inj (of_decide_eq_true z)))).mpr ?_⟩
      exact hR2 _ _ ⟨rfl, _, rfl⟩
    · walk_at "wd"
      refine ⟨_, rfl, rfl, rfl, (iff_of_eq (if_pos (decide_eq_true (by rfl)))).mpr ?_⟩
      refine ⟨_, rfl, ⟨_, rfl⟩, _, rfl, rfl, rfl, (iff_of_eq (if_pos (decide_eq_true (by rfl)))).mpr ?_⟩
      refine ⟨_, rfl, ps, rfl, pl, fun _ => none, fun a ha us hu => ?_, ?_⟩
      · obtain ⟨u, rfl⟩ := List.length_eq_one_iff.1 hu
        rcases hp a ha with rfl | ⟨n, rfl⟩
        · exact ⟨rfl, rfl, _, rfl, _, rfl, .inl ⟨rfl, rfl⟩⟩
        · exact ⟨rfl, rfl, _, rfl, _, rfl, .inl ⟨rfl, rfl⟩⟩
      · have e : List.filterMap ((fun _ => none : W → Option PyData) ∘ W.d) ps = [] := List.filterMap_eq_nil_iff.mpr fun _ _ => rfl
        rw [e]
        refine ⟨_, rfl, _, rfl, sh0, sh0, ?_⟩
        rw [if_pos (by rfl)]
        exact hR2 _ _ ⟨rfl, _, rfl⟩
  · rintro _ _ ⟨rfl, v2, rfl⟩
    walk_at "wd"
    exact .inl h
theorem QW (F : Fun K "law" "law" k9 f fd) (T : Txt K mg C) (c_Reader : CalM P w K mg base 1 "Reader" C (zc K (jk C))) (JW : CalT P w K mg base 1 "open_row" C (zc K (uz C))) (JX : CalT P w K mg base 4 "read" C (zc K (jq C))) (J6 : Cal P w K mg base 4 "_law_piece" [] (zc K uW)) (J0 : Cal P w K mg base 1 "_law_cell_at" [] (zc K vL)) (J7 : Cal P w K mg base 2 "_law_read" [] (zc K jt)) (J2 : Cal P w K mg base 1 "_law_is" [] (zc K Xl)) : FnOk P w K mg base CX0 5 f fd ["_law_script"] (zc K sLaw5) := by
  have nd := Z4.nd
  apply F.okV Z4 (by rintro _ _ _ ⟨ns, rfl, _⟩; rfl) (fun cdv A outer sh H E hr => (zb (zm (i := 1) nd rfl (Or.inl rfl) (jZ c_Reader (hr.mono (by decide)) rfl))
      (zb (zL (PW.pt (yM (zl xu (yG JW (hr.mono (by decide)) (pv 1)) zd (zp _)) (yA (zl (uv (K := K) rfl hr.units) (xl JX (hr.mono (by decide)) (pv 1) (QA.pa (qc zd qn))) (yf (qc (zS (qc zd (qc zd qn))) qn)) (zp _))))) (zg (zn yX)) zB)
      (zb (zm (i := 2) nd rfl (Or.inl rfl) (jZ c_Reader (hr.mono (by decide)) rfl))
      (zb (ZT (i := 3) nd rfl rfl (qU (N := ["_law_k", "_law_cell"]) (n := 2) (js := [])) rfl (YX (K := K) rfl rfl T.n_enumerate (QA.pa (qc (xT (UU (K := K) rfl) (pv 0) (y7 zf) (y7 zf)) qn))) (fun _ _ _ _ => (uP (K := K) (n := 2) rfl rfl (yF (zI (i := 0) (show List.Nodup (["_law_k", "_law_cell"] : List Str) by decide +kernel) rfl (Or.inl rfl)) (yF (zI (i := 1) (show List.Nodup (["_law_k", "_law_cell"] : List Str) by decide +kernel) rfl (Or.inl rfl)) uF)))) (fun _ _ _ _ => vB) (fun _ _ _ _ => (zH J6 (hr.mono (by decide)) rfl (QA.pa (qc (zk yr (pv 1) (zk xM zf (pv 0))) qn)))))
      (zb (zm (i := 4) nd rfl (Or.inl rfl) (zk zA (zW (K := K) rfl PySem.F.plainAttrs_str PySem.F.slot_str_join PySem.F.type_str_join (vK (K := K) rfl) zd (QA.pa (qc (pv 3) qn))) (zQ (vD (K := K) rfl) (yf (qc zd (qc zd (qc zd (qc zd qn))))) (zk yt (zH J0 (hr.mono (by decide)) rfl (QA.pa (qc (pv 0) (qc zf qn)))) zf) (fun _ _ => rfl))))
      (zb (Zb (zH J7 (hr.mono (by decide)) rfl (QA.pa (qc (pv 4) qn))) (uP (K := K) (n := 2) rfl rfl (yF (zI (i := 5) nd rfl (Or.inl rfl)) (yF (zI (i := 6) nd rfl (Or.inl rfl)) uF))))
      (zb (zm (i := 7) nd rfl (Or.inl rfl) (xl JX (hr.mono (by decide)) (pv 2) (QA.pa (qc (pv 4) qn))))
      (zb (zL (PW.pt (yM (x6 (yq (zH J2 (hr.mono (by decide)) rfl (QA.pa (qc (pv 7) (qc (pv 5) qn)))))) (yA (zl xu (yG JW (hr.mono (by decide)) (pv 2)) (pv 6) (zp _))))) (zg (zn yX)) zB)
      (zb (yw (zW (K := K) rfl PySem.F.plainAttrs_list PySem.F.slot_list_append PySem.F.type_list_append yb (pv 7) (QA.pa (qc (zS (qc zd (qc zd qn))) qn))))
      (zb (zL (PW.pt (yM (zl (uv (K := K) rfl hr.units) (xl JX (hr.mono (by decide)) (pv 2) (QA.pa (qc zd qn))) (yf qn) (zp _)) (yM (zl xu (yG JW (hr.mono (by decide)) (pv 2)) (pv 6) (zp _)) (yA (zl xu (yG JW (hr.mono (by decide)) (pv 1)) zd (zp _)))))) (zg (zn yX)) zB)
      (zb (Zb (zH J7 (hr.mono (by decide)) rfl (QA.pa (qc (zk zA (pv 6) zd) qn))) (uP (K := K) (n := 2) rfl rfl (yF (zI (i := 8) nd rfl (Or.inl rfl)) (yF (zI (i := 6) nd rfl (Or.inl rfl)) uF))))
      (zb (zL (PW.pt (yM (x6 (yq (zH J2 (hr.mono (by decide)) rfl (QA.pa (qc (xl JX (hr.mono (by decide)) (pv 2) (QA.pa (qc zd qn))) (qc (pv 8) qn)))))) (yA (zl xu (yG JW (hr.mono (by decide)) (pv 2)) (pv 6) (zp _))))) (zg (zn yX)) zB)
      (zg (zn (Uw (xH (Qo (K := K) rfl hr.units) (xl JX (hr.mono (by decide)) (pv 1) (QA.pa (qc zd qn))) (yf (qc (zS (qc zd (qc zd (qc (zS (qc zf (qc zf (qc yz qn)))) qn)))) qn)) (zp _)) (qK (xH yu (yG JW (hr.mono (by decide)) (pv 1)) zd (zp _)))))))))))))))))))
  · walk_at "ref"
  rintro _ O R ⟨ns, rfl, hns, hlen, h⟩
  refine zC (fun ρ' O' => ∃ xb db pb, ρ' = [some (.d (.list (ns.map .int))), some (.own xb), none, none, none, none, none, none, none] ∧ RdAt C O' xb db pb []) (fun R1 hR1 => ?_) ?_
  · walk_at "wd"
    intro x dx hx
    exact ⟨x, dx, rfl, zi, fun p O' hp hr ho => ⟨rfl, hR1 _ _ ⟨x, dx, p, rfl, hr⟩⟩⟩
  rintro _ O1 ⟨xb, db, pb, rfl, hb1⟩
  have tb : okT (Str.ofString "a~1;2") ∧ (Str.ofString "a~1;2").length = 5 := by unfold okT; decide +kernel
  have eal : PyData.list [.tuple [.str (Str.ofString "sign"), .str (Str.ofString "a")]] = .list [zv 97] := rfl
  obtain ⟨bsh, bev⟩ := xY (ds := [zv 97]) fun d hd => by cases List.mem_singleton.mp hd; exact ji (by decide)
  refine zC (fun ρ' O' => ∃ pb, ρ' = [some (.d (.list (ns.map .int))), some (.own xb), none, none, none, none, none, none, none] ∧ RdAt C O' xb db pb [126, 49, 59, 50]) (fun R1 hR1 => ?_) ?_
  · walk_at "wd"
    refine ⟨db, _, hb1.x, by simp; decide, xb, db, pb, [], rfl, hb1, by simp, rfl, rfl, rfl, (iff_of_eq (if_pos (decide_eq_true (by rfl)))).mpr ?_⟩
    refine ⟨db, _, hb1.x, by simp; decide, xb, db, pb, [], _, rfl, hb1, xO, xP tb.1, by rw [tb.2]; decide, fun q p' O' hq hq2 hr ho hp hqp => ?_⟩
    rw [Xn] at hq2 hr
    refine ⟨.list [zv 97], by simp only [xm, hq2, zM, Option.map_some], _, rfl, bsh, bsh, ?_⟩
    exact (iff_of_eq (if_pos bev)).mpr (hR1 _ _ ⟨p', rfl, hr⟩)
  clear hb1 pb
  rintro _ O2 ⟨pb, rfl, hb2⟩
  refine zC (fun ρ' O' => ∃ xr dr pr, ρ' = [some (.d (.list (ns.map .int))), some (.own xb), some (.own xr), none, none, none, none, none, none] ∧ Two C O' xb db pb [126, 49, 59, 50] xr dr pr []) (fun R1 hR1 => ?_) ?_
  · walk_at "wd"
    intro x dx hx
    exact ⟨x, dx, rfl, zi, fun p O' hp hr ho => ⟨rfl, hR1 _ _ ⟨x, dx, p, rfl, Xm hb2 hx hp hr ho⟩⟩⟩
  rintro _ O ⟨xr, dr, pr, rfl, h2⟩
  refine zC (fun ρ' O' => ∃ ps : List Str, ps.length ≤ 62 ∧ (∀ p ∈ ps, okT p ∧ p.length ≤ 60) ∧ ρ' = [some (.d (.list (ns.map .int))), some (.own xb), some (.own xr), some (.d (.list (ps.map .str))), none, none, none, none, none] ∧ O = O') (fun R1 hR1 => ?_) ?_
  · walk_at "wd"
    have hcl : (vh (ns.map PyData.int) (some 1) (some 63)).length ≤ 62 := by
      unfold vh
      have s1 : HT.sIx (ns.map PyData.int).length 0 (some ((1 : Nat) : Int)) = _ := HT.sIx_nat _ 0 1
      have s2 : HT.sIx (ns.map PyData.int).length (ns.map PyData.int).length (some ((63 : Nat) : Int)) = _ := HT.sIx_nat _ _ 63
      have s1' : HT.sIx (ns.map PyData.int).length 0 (some (1 : Int)) = _ := s1
      have s2' : HT.sIx (ns.map PyData.int).length (ns.map PyData.int).length (some (63 : Int)) = _ := s2
      rw [s1', s2', List.length_take, List.length_drop, List.length_map]
      omega
    have hcm : ∀ d ∈ vh (ns.map PyData.int) (some 1) (some 63), ∃ n ∈ ns, d = .int n := fun d hd => by
      unfold vh at hd
      obtain ⟨n, hn, rfl⟩ := List.mem_map.1 (List.mem_of_mem_drop (List.mem_of_mem_take hd))
      exact ⟨n, hn, rfl⟩
    generalize hcu : vh (ns.map PyData.int) (some 1) (some 63) = cu at hcl hcm
    refine ⟨_, rfl, _, zM _, ?_⟩
    rw [hcu]
    refine ⟨_, rfl, _, zM _, rfl, by omega, fun d => ∃ z, d = .str z ∧ okT z ∧ z.length ≤ 60, fun w hw us hu => ?_, fun ds hdl hdp => ?_⟩
    · obtain ⟨u0, u1, rfl⟩ : ∃ a b, us = [a, b] := by
        match us, hu with
        | [a, b], _ => exact ⟨a, b, rfl⟩
      obtain ⟨j, hj⟩ := List.mem_iff_getElem?.mp hw
      rw [List.getElem?_zipWith] at hj
      cases hr : (List.range cu.length)[j]? with
      | none => rw [hr] at hj; cases hj
      | some k =>
        rw [hr] at hj
        cases hdi : cu[j]? with
        | none => rw [hdi] at hj; cases hj
        | some d =>
          rw [hdi] at hj
          cases hj
          have hk := List.mem_range.mp (List.mem_of_getElem? hr)
          obtain ⟨n, hn, rfl⟩ := hcm d (List.mem_of_getElem? hdi)
          have hb : Bt 1048600 (n + 131 * (k : Int)) := ((hns n hn).mono (m := 1048580) (n := 1048599) (by decide)).add ((Bt.small (a := 131 * (k : Int)) (by omega) (by omega)).mono (by decide))
          exact ⟨_, rfl, rfl, _, _, rfl, _, _, rfl, rfl, rfl, by simp, mulL (by decide) (by decide), _, rfl, hb, fun z hz hl => ⟨rfl, _, rfl, z, rfl, hz, hl⟩⟩
    · obtain ⟨ps, e1, e2⟩ := j6 hdp
      subst e1
      exact hR1 _ _ ⟨ps, by rw [List.length_map] at hdl; omega, e2, rfl, rfl⟩
  rintro _ _ ⟨ps, p1, p2, rfl, rfl⟩
  refine zC (fun ρ' O' => ∃ z : Str, okT z ∧ z.length ≤ 4000 ∧ ρ' = [some (.d (.list (ns.map .int))), some (.own xb), some (.own xr), some (.d (.list (ps.map .str))), some (.d (.str z)), none, none, none, none] ∧ O = O') (fun R1 hR1 => ?_) ?_
  · walk_at "wd"
    have hsum := ZW p2
    have esep : (Str.ofString "") = noS := rfl
    have jT : okT (Txt.join noS ps) := fun c hc => by
      rw [xf] at hc
      rcases (PyProof.Rows.mem_join noS c ps).mp hc with ⟨t, ht, hct⟩ | ⟨_, hct⟩
      · exact (p2 t ht).1 c hct
      · cases hct
    have jl : (Txt.join noS ps).length ≤ 3720 := by
      rw [zu, xf]
      have := v9 noS ps
      rw [show noS.length = 0 from rfl] at this
      omega
    have all : ∀ w ∈ ([.str (Str.ofString "~"), .str (Str.ofString "~7"), .str (Str.ofString "~12;;3"), .str (Str.ofString "")] : List PyData).map W.d, ∃ y, w = .d (.str y) ∧ okT y ∧ y.length ≤ 6 := by
      intro w hw
      simp only [List.map_cons, List.map_nil, List.mem_cons, List.not_mem_nil, or_false] at hw
      rcases hw with rfl | rfl | rfl | rfl <;> exact ⟨_, rfl, by unfold okT; decide +kernel⟩
    obtain ⟨w, ew, y, rfl, hy, hyl⟩ := vC (i := ns[0]?.getD 0 % 4) (by omega) (by simp only [List.length_map, List.length_cons, List.length_nil]; omega) all
    refine ⟨.inr (.inl ⟨rfl, _, rfl⟩), ps, ?_, by decide, by omega, ns, rfl, 0, rfl, _, rfl, _, ew, y, rfl, ?_, ?_⟩
    · show some (List.map W.d (List.map PyData.str ps)) = _
      rw [List.map_map]
      rfl
    · rw [esep, sizeLine_eq]; omega
    · rw [esep]
      exact hR1 _ _ ⟨_, vN jT hy, by rw [vO]; omega, rfl, rfl⟩
  rintro _ _ ⟨z, hT, hz, rfl, rfl⟩
  have hokO := j9 (cs := z.cps.toList) (b := []) (.inl rfl)
  obtain ⟨g1, g2, g3⟩ := uy z.cps.toList xO
  have glt := ZS (cs := z.cps.toList) (b := []) (fun x hx => by cases hx) hT
  have hzl : z.length = z.cps.toList.length := rfl
  rw [List.length_nil, Nat.zero_add] at g2
  have gout := vM (cs := z.cps.toList) (b := []) hT
  have git := jw (cs := z.cps.toList) (b := [])
  generalize hF1 : rdF [] z.cps.toList = F1 at *
  have tn : okT (Str.ofString "") ∧ (Str.ofString "").length = 0 ∧ (Str.ofString "").cps.toList = [] := by unfold okT; decide +kernel
  have tu : okT (Str.ofString "0u~") ∧ (Str.ofString "0u~").length = 3 := by unfold okT; decide +kernel
  have tg : okT (Str.ofString "3;g") ∧ (Str.ofString "3;g").length = 3 := by unfold okT; decide +kernel
  have eb4 : (⟨[126, 49, 59, 50].toArray⟩ : Str) = Str.ofString "~1;2" := by decide +kernel
  have sh0 : SeqAt.shaped (.list []) = true := by decide +kernel
  obtain ⟨esh, eev⟩ := xY (vM (b := [126, 49, 59, 50]) tg.1)
  rw [Vb] at esh eev
  refine zC (fun ρ' O' => ρ' = [some (.d (.list (ns.map .int))), some (.own xb), some (.own xr), some (.d (.list (ps.map .str))), some (.d (.str z)), some (.d (.list F1.2)), some (.d (.str ⟨F1.1.toArray⟩)), none, none] ∧ Old O O') (fun R1 hR1 => ?_) ?_
  · walk_at "wd"
    exact ⟨z, rfl, hT, by omega, fun O' ho => by rw [hF1]; exact ⟨_, rfl, rfl, _, _, rfl, _, _, rfl, rfl, hR1 _ _ ⟨rfl, ho⟩⟩⟩
  rintro _ O3 ⟨rfl, ho3⟩
  have h3 := h2.old ho3
  clear h2 ho3
  refine zC (fun ρ' O' => ∃ q pr, ρ' = [some (.d (.list (ns.map .int))), some (.own xb), some (.own xr), some (.d (.list (ps.map .str))), some (.d (.str z)), some (.d (.list F1.2)), some (.d (.str ⟨F1.1.toArray⟩)), some (.own q), none] ∧ Two C O' xb db pb [126, 49, 59, 50] xr dr pr F1.1 ∧ O' q = some (.lst (F1.2.map .d)) ∧ k8 q xb pb xr pr) (fun R1 hR1 => ?_) ?_
  · walk_at "wd"
    refine ⟨dr, _, h3.r.x, by simp; decide, xr, dr, pr, [], z, rfl, h3.r, xO, xP hT, by simp; omega, fun q p' O' hq hq2 hr ho hp hqp => ?_⟩
    rw [hF1] at hq2 hr
    have a := h3.apart hq
    exact hR1 _ _ ⟨q, p', rfl, h3.readR hr ho hp, hq2, a.1, a.2.1, a.2.2.1, hqp⟩
  clear h3 pr
  rintro _ O4 ⟨q, pr, rfl, h4, hq4, ap⟩
  refine zC (fun ρ' O' => ρ' = [some (.d (.list (ns.map .int))), some (.own xb), some (.own xr), some (.d (.list (ps.map .str))), some (.d (.str z)), some (.d (.list F1.2)), some (.d (.str ⟨F1.1.toArray⟩)), some (.own q), none] ∧ O4 = O') (fun R1 hR1 => ?_) ?_
  · walk_at "wd"
    refine ⟨q, F1.2, rfl, hq4, gout, git, ?_⟩
    refine (iff_of_eq (if_pos rfl)).mpr ?_
    exact ⟨dr, _, h4.r.x, by simp; decide, xr, dr, pr, _, rfl, h4.r, by omega, rfl, rfl, rfl, (iff_of_eq (if_pos (decide_eq_true (by rfl)))).mpr (hR1 _ _ ⟨rfl, rfl⟩)⟩
  rintro _ _ ⟨rfl, rfl⟩
  refine zC (fun ρ' O' => ρ' = [some (.d (.list (ns.map .int))), some (.own xb), some (.own xr), some (.d (.list (ps.map .str))), some (.d (.str z)), some (.d (.list F1.2)), some (.d (.str ⟨F1.1.toArray⟩)), some (.own q), none] ∧ Two C O' xb db pb [126, 49, 59, 50] xr dr pr F1.1) (fun R1 hR1 => ?_) ?_
  · walk_at "wd"
    have ea : yj O4 (.own q) (.d (.tuple [.str (Str.ofString "sign"), .str (Str.ofString "a")])) = some (updO O4 q (.lst (F1.2.map .d ++ [.d (.tuple [.str (Str.ofString "sign"), .str (Str.ofString "a")])]))) := by
      simp only [yj, hq4]
      rw [if_pos (by rw [List.length_map]; omega)]
    exact ⟨.inl ⟨rfl, by simp [zr, hq4]⟩, _, ea, hR1 _ _ ⟨rfl, h4.upd ap _⟩⟩
  rintro _ O5 ⟨rfl, h5⟩
  clear h4 hq4 ap
  refine zC (fun ρ' O' => ∃ pr, ρ' = [some (.d (.list (ns.map .int))), some (.own xb), some (.own xr), some (.d (.list (ps.map .str))), some (.d (.str z)), some (.d (.list F1.2)), some (.d (.str ⟨F1.1.toArray⟩)), some (.own q), none] ∧ Two C O' xb db pb [126, 49, 59, 50] xr dr pr F1.1) (fun R1 hR1 => ?_) ?_
  · walk_at "wd"
    refine ⟨dr, _, h5.r.x, by simp; decide, xr, dr, pr, F1.1, _, rfl, h5.r, g1, xP tn.1, by rw [tn.2.1]; omega, fun q2 p' O' hq hq2 hr ho hp hqp => ?_⟩
    rw [tn.2.2] at hq2 hr
    have t := h5.readR hr ho hp
    have hq3 : O' q2 = some (.lst []) := hq2
    refine ⟨.list [], by simp [xm, hq3, zU], _, rfl, sh0, sh0, (iff_of_eq (if_pos (by rfl))).mpr ?_⟩
    refine ⟨dr, _, t.r.x, by simp; decide, xr, dr, p', _, rfl, t.r, by show F1.1.length ≤ 100000; omega, rfl, rfl, rfl, (iff_of_eq (if_pos (decide_eq_true (by rfl)))).mpr ?_⟩
    exact ⟨db, _, t.b.x, by simp; decide, xb, db, pb, _, rfl, t.b, by decide, rfl, rfl, rfl, (iff_of_eq (if_pos (decide_eq_true (congrArg V.str eb4)))).mpr (hR1 _ _ ⟨p', rfl, t⟩)⟩
  clear h5 pr
  rintro _ O6 ⟨pr, rfl, h6⟩
  refine zC (fun ρ' O' => ρ' = [some (.d (.list (ns.map .int))), some (.own xb), some (.own xr), some (.d (.list (ps.map .str))), some (.d (.str z)), some (.d (.list F1.2)), some (.d (.str ⟨(rdF F1.1 (Str.ofString "0u~").cps.toList).1.toArray⟩)), some (.own q), some (.d (.list (rdF F1.1 (Str.ofString "0u~").cps.toList).2))] ∧ Two C O' xb db pb [126, 49, 59, 50] xr dr pr F1.1) (fun R1 hR1 => ?_) ?_
  · walk_at "wd"
    refine ⟨by show F1.1.toArray.size + _ ≤ _; rw [List.size_toArray, tu.2, sizeLine_eq]; omega, _, rfl, vN glt tu.1, by rw [vO, tu.2]; show F1.1.toArray.size + 3 ≤ 5000; rw [List.size_toArray]; omega, fun O' ho => ?_⟩
    rw [zV, show (⟨F1.1.toArray⟩ : Str).cps.toList = F1.1 from rfl, QU hokO]
    exact ⟨_, rfl, rfl, _, _, rfl, _, _, rfl, rfl, hR1 _ _ ⟨rfl, h6.old ho⟩⟩
  rintro _ O7 ⟨rfl, h7⟩
  clear h6
  refine zC (fun ρ' O' => ∃ pr b7, ρ' = [some (.d (.list (ns.map .int))), some (.own xb), some (.own xr), some (.d (.list (ps.map .str))), some (.d (.str z)), some (.d (.list F1.2)), some (.d (.str ⟨(rdF F1.1 (Str.ofString "0u~").cps.toList).1.toArray⟩)), some (.own q), some (.d (.list (rdF F1.1 (Str.ofString "0u~").cps.toList).2))] ∧ Two C O' xb db pb [126, 49, 59, 50] xr dr pr b7) (fun R1 hR1 => ?_) ?_
  · walk_at "wd"
    refine ⟨dr, _, h7.r.x, by simp; decide, xr, dr, pr, F1.1, _, rfl, h7.r, g1, xP tu.1, by rw [tu.2]; omega, fun q2 p' O' hq hq2 hr ho hp hqp => ?_⟩
    have t := h7.readR hr ho hp
    obtain ⟨_, u2, _⟩ := uy (Str.ofString "0u~").cps.toList g1
    have hul : (Str.ofString "0u~").cps.toList.length = 3 := tu.2
    refine ⟨q2, _, rfl, hq2, vM tu.1, jw, ?_⟩
    refine (iff_of_eq (if_pos rfl)).mpr ?_
    exact ⟨dr, _, t.r.x, by simp; decide, xr, dr, p', _, rfl, t.r, by omega, rfl, rfl, rfl, (iff_of_eq (if_pos (decide_eq_true (by rfl)))).mpr (hR1 _ _ ⟨p', _, rfl, t⟩)⟩
  clear h7 pr
  rintro _ O8 ⟨pr, b7, rfl, h8⟩
  walk_at "wd"
  refine ⟨db, _, h8.b.x, by simp; decide, xb, db, pb, _, _, rfl, h8.b, by unfold okG; decide, xP tg.1, by rw [tg.2]; decide, fun q2 p' O' hq hq2 hr ho hp hqp => ?_⟩
  rw [Vb] at hq2 hr
  refine ⟨.list [.tuple [.str (Str.ofString "row"), .str (sgS 103), .tuple [.int 1, .int 23, .none]]], by simp only [xm, hq2, zM, Option.map_some], _, rfl, esh, esh, (iff_of_eq (if_pos eev)).mpr ?_⟩
  refine ⟨db, _, hr.x, by simp; decide, xb, db, p', _, rfl, hr, by decide, rfl, rfl, rfl, .inl ?_⟩
  exact Eq.mpr (congrArg (fun k => R (.d (.bool k)) _) (decide_eq_true (by rfl))) (h _)
end
theorem fk {K : PySem.W.Frag} {h : Heap} {mg : Str → Option Value} {x : Str} {st : Stmt} {f : Addr} {oc kV doc pm cd ct : Value} {od an : Option Addr} {sl : Array (Option Value)} (X : K.In h) (G : h.Ns mainGlobals mg)
    (a : PySem.W.nsIn K mainGlobals x = some (some (.ref f))) (l : K.lookup f = some ⟨oc, od, .func (PySem.W.fnOf x x (defArgs st) (defBody st) (defScope st) .none kV doc pm an cd ct), sl⟩) (c : PySem.W.codeIn K cd x = true) (k : PySem.W.keepIn K (.ref f) = true) :
    ∃ f fd, Fun K x x st f fd ∧ mg x = some (.ref f) := ⟨f, _, xK (st := st) l c k, PySem.W.mg_of X G a⟩
theorem mk_Reader {K : PySem.W.Frag} {C f : Addr} {oc kV doc pm cd ct : Value} {od an : Option Addr} {sl : Array (Option Value)} (mk : PySem.W.makesIn K C = true) (a1 : PySem.W.findIn K (.ref C) "__init__" = some (some (.ref f))) (i1 : PySem.W.isFn K (.ref f) = true) (kc : PySem.W.keepIn K (.ref C) = true)
    (l : K.lookup f = some ⟨oc, od, .func (PySem.W.fnOf "__init__" "Reader.__init__" (defArgs zw) (defBody zw) (defScope zw) .none kV doc pm an cd ct), sl⟩) (c : PySem.W.codeIn K cd "Reader.__init__" = true) (k : PySem.W.keepIn K (.ref f) = true) :
    ∃ f fd, Mk K C f ∧ Fun K "__init__" "Reader.__init__" zw f fd := ⟨f, _, ⟨mk, a1, i1, kc⟩, xK (st := zw) l c k⟩
theorem mt_open_row {K : PySem.W.Frag} {C f : Addr} {oc kV doc pm cd ct : Value} {od an : Option Addr} {sl : Array (Option Value)} (a1 : PySem.W.findIn K (.ref C) "open_row" = some (some (.ref f))) (i1 : PySem.W.isFn K (.ref f) = true)
    (l : K.lookup f = some ⟨oc, od, .func (PySem.W.fnOf "open_row" "Reader.open_row" (defArgs zx) (defBody zx) (defScope zx) .none kV doc pm an cd ct), sl⟩) (c : PySem.W.codeIn K cd "Reader.open_row" = true) (k : PySem.W.keepIn K (.ref f) = true) :
    ∃ f fd, Meth K C "open_row" f ∧ Fun K "open_row" "Reader.open_row" zx f fd := ⟨f, _, ⟨a1, i1, k⟩, xK (st := zx) l c k⟩
theorem mt_end_row {K : PySem.W.Frag} {C f : Addr} {oc kV doc pm cd ct : Value} {od an : Option Addr} {sl : Array (Option Value)} (a1 : PySem.W.findIn K (.ref C) "end_row" = some (some (.ref f))) (i1 : PySem.W.isFn K (.ref f) = true)
    (l : K.lookup f = some ⟨oc, od, .func (PySem.W.fnOf "end_row" "Reader.end_row" (defArgs zy) (defBody zy) (defScope zy) .none kV doc pm an cd ct), sl⟩) (c : PySem.W.codeIn K cd "Reader.end_row" = true) (k : PySem.W.keepIn K (.ref f) = true) :
    ∃ f fd, Meth K C "end_row" f ∧ Fun K "end_row" "Reader.end_row" zy f fd := ⟨f, _, ⟨a1, i1, k⟩, xK (st := zy) l c k⟩
theorem mt_read_sign {K : PySem.W.Frag} {C f : Addr} {oc kV doc pm cd ct : Value} {od an : Option Addr} {sl : Array (Option Value)} (a1 : PySem.W.findIn K (.ref C) "read_sign" = some (some (.ref f))) (i1 : PySem.W.isFn K (.ref f) = true)
    (l : K.lookup f = some ⟨oc, od, .func (PySem.W.fnOf "read_sign" "Reader.read_sign" (defArgs zt) (defBody zt) (defScope zt) .none kV doc pm an cd ct), sl⟩) (c : PySem.W.codeIn K cd "Reader.read_sign" = true) (k : PySem.W.keepIn K (.ref f) = true) :
    ∃ f fd, Meth K C "read_sign" f ∧ Fun K "read_sign" "Reader.read_sign" zt f fd := ⟨f, _, ⟨a1, i1, k⟩, xK (st := zt) l c k⟩
theorem mt_read {K : PySem.W.Frag} {C f : Addr} {oc kV doc pm cd ct : Value} {od an : Option Addr} {sl : Array (Option Value)} (a1 : PySem.W.findIn K (.ref C) "read" = some (some (.ref f))) (i1 : PySem.W.isFn K (.ref f) = true)
    (l : K.lookup f = some ⟨oc, od, .func (PySem.W.fnOf "read" "Reader.read" (defArgs zG) (defBody zG) (defScope zG) .none kV doc pm an cd ct), sl⟩) (c : PySem.W.codeIn K cd "Reader.read" = true) (k : PySem.W.keepIn K (.ref f) = true) :
    ∃ f fd, Meth K C "read" f ∧ Fun K "read" "Reader.read" zG f fd := ⟨f, _, ⟨a1, i1, k⟩, xK (st := zG) l c k⟩
theorem all_mk {P : Program} {w : World} {K : PySem.W.Frag} {mg : Str → Option Value} {fa C : Addr} (T : Txt K mg C) (hfa : mg "law" = some (.ref fa)) (e_Reader : ∃ f fd, Mk K C f ∧ Fun K "__init__" "Reader.__init__" zw f fd) (e_m_open_row : ∃ f fd, Meth K C "open_row" f ∧ Fun K "open_row" "Reader.open_row" zx f fd) (e_m_end_row : ∃ f fd, Meth K C "end_row" f ∧ Fun K "end_row" "Reader.end_row" zy f fd) (e_m_read_sign : ∃ f fd, Meth K C "read_sign" f ∧ Fun K "read_sign" "Reader.read_sign" zt f fd) (e_m_read : ∃ f fd, Meth K C "read" f ∧ Fun K "read" "Reader.read" zG f fd)
    (KA : ∃ f fd, Fun K "is_letter" "is_letter" xD f fd ∧ mg "is_letter" = some (.ref f))
    (KC : ∃ f fd, Fun K "parted" "parted" ua f fd ∧ mg "parted" = some (.ref f))
    (Kz : ∃ f fd, Fun K "is_figure" "is_figure" xC f fd ∧ mg "is_figure" = some (.ref f))
    (KD : ∃ f fd, Fun K "sign_alone" "sign_alone" xq f fd ∧ mg "sign_alone" = some (.ref f))
    (Ku : ∃ f fd, Fun K "_law_mixed" "_law_mixed" xt f fd ∧ mg "_law_mixed" = some (.ref f))
    (Ks : ∃ f fd, Fun K "_law_figures" "_law_figures" yK f fd ∧ mg "_law_figures" = some (.ref f))
    (Kq : ∃ f fd, Fun K "_law_body" "_law_body" xE f fd ∧ mg "_law_body" = some (.ref f))
    (Kx : ∃ f fd, Fun K "_law_piece" "_law_piece" yD f fd ∧ mg "_law_piece" = some (.ref f))
    (Kr : ∃ f fd, Fun K "_law_cell_at" "_law_cell_at" yJ f fd ∧ mg "_law_cell_at" = some (.ref f))
    (Kv : ∃ f fd, Fun K "_law_outside" "_law_outside" yL f fd ∧ mg "_law_outside" = some (.ref f))
    (Kw : ∃ f fd, Fun K "_law_parted" "_law_parted" yV f fd ∧ mg "_law_parted" = some (.ref f))
    (Ky : ∃ f fd, Fun K "_law_read" "_law_read" xF f fd ∧ mg "_law_read" = some (.ref f))
    (Kt : ∃ f fd, Fun K "_law_is" "_law_is" vw f fd ∧ mg "_law_is" = some (.ref f))
    (KB : ∃ f fd, Fun K "law" "law" k9 f fd ∧ mg "law" = some (.ref f)) :
    ∃ fd : FuncData, (∀ (s : Shared) (v : Value), BindsTo s fd ⟨[v], []⟩ [("_law_script", v)]) ∧ ∀ base : Heap, K.In base → base.Ns mainGlobals mg → FnOk P w K mg base CX0 5 fa fd ["_law_script"] (zc K sLaw5) := by
  obtain ⟨fS, dS, MS, FS⟩ := e_Reader
  obtain ⟨fM_open_row, dM_open_row, MM_open_row, FM_open_row⟩ := e_m_open_row
  obtain ⟨fM_end_row, dM_end_row, MM_end_row, FM_end_row⟩ := e_m_end_row
  obtain ⟨fM_read_sign, dM_read_sign, MM_read_sign, FM_read_sign⟩ := e_m_read_sign
  obtain ⟨fM_read, dM_read, MM_read, FM_read⟩ := e_m_read
  obtain ⟨KP, Km, JR, K6⟩ := KA
  obtain ⟨KR, Ko, JT, K8⟩ := KC
  obtain ⟨KO, Kl, JQ, K5⟩ := Kz
  obtain ⟨KS, Kp, JU, K9⟩ := KD
  obtain ⟨KJ, Kg, JL, K0⟩ := Ku
  obtain ⟨KH, Ke, JJ, KY⟩ := Ks
  obtain ⟨KF, Kc, JH, KU⟩ := Kq
  obtain ⟨KM, Kj, JO, K3⟩ := Kx
  obtain ⟨KG, Kd, JI, KW⟩ := Kr
  obtain ⟨KK, Kh, JM, K1⟩ := Kv
  obtain ⟨KL, Ki, JN, K2⟩ := Kw
  obtain ⟨KN, Kk, JP, K4⟩ := Ky
  obtain ⟨KI, Kf, JK, KZ⟩ := Kt
  obtain ⟨KQ, Kn, JS, K7⟩ := KB
  rw [hfa] at K7
  cases K7
  refine ⟨Kn, fun s v => ?_, fun base _ _ => ?_⟩
  · obtain ⟨oc, od, kV, doc, pm, an, cdv, ct, osl, rfl, _⟩ := JS.ex
    exact .of_eq rfl
  have c_Reader : CalM P w K mg base 1 "Reader" C (zc K (jk C)) := ⟨fS, dS, _, MS, uZ FS T, T.mgC, FS.binds fun _ _ _ _ _ _ us hl => match us, hl with | [_], _ => rfl⟩
  have JW : CalT P w K mg base 1 "open_row" C (zc K (uz C)) := ⟨fM_open_row, dM_open_row, _, T.st.cl, MM_open_row, vx FM_open_row T, FM_open_row.binds fun _ _ _ _ _ _ us hl => match us, hl with | [_], _ => rfl⟩
  have J9 : Cal P w K mg base 1 "is_letter" [] (zc K kW) := ⟨KP, Km, _, [], jA JR T, K6, JR.kp, JR.binds fun _ _ _ _ _ _ us hl => match us, hl with | [_], _ => rfl, .nil⟩
  have Ka : Cal P w K mg base 1 "parted" [] (zc K jj) := ⟨KR, Ko, _, [], Z5 JT T, K8, JT.kp, JT.binds fun _ _ _ _ _ _ us hl => match us, hl with | [_], _ => rfl, .nil⟩
  have JV : CalT P w K mg base 2 "end_row" C (zc K (kY C)) := ⟨fM_end_row, dM_end_row, _, T.st.cl, MM_end_row, vP FM_end_row T Ka JW, FM_end_row.binds fun _ _ _ _ _ _ us hl => match us, hl with | [_, _], _ => rfl⟩
  have J8 : Cal P w K mg base 1 "is_figure" [] (zc K kX) := ⟨KO, Kl, _, [], jz JQ T, K5, JQ.kp, JQ.binds fun _ _ _ _ _ _ us hl => match us, hl with | [_], _ => rfl, .nil⟩
  have Kb : Cal P w K mg base 1 "sign_alone" [] (zc K yI) := ⟨KS, Kp, _, [], qw JU T, K9, JU.kp, JU.binds fun _ _ _ _ _ _ us hl => match us, hl with | [_], _ => rfl, .nil⟩
  have JY : CalT P w K mg base 3 "read_sign" C (zc K (jn C)) := ⟨fM_read_sign, dM_read_sign, _, T.st.cl, MM_read_sign, x4 FM_read_sign T J9 JV J8 Kb, FM_read_sign.binds fun _ _ _ _ _ _ us hl => match us, hl with | [_, _], _ => rfl⟩
  have JX : CalT P w K mg base 4 "read" C (zc K (jq C)) := ⟨fM_read, dM_read, _, T.st.cl, MM_read, u3 FM_read T JY, FM_read.binds fun _ _ _ _ _ _ us hl => match us, hl with | [_, _], _ => rfl⟩
  have J3 : Cal P w K mg base 1 "_law_mixed" [] (zc K xn) := ⟨KJ, Kg, _, [], jx JL T, K0, JL.kp, JL.binds fun _ _ _ _ _ _ us hl => match us, hl with | [_, _], _ => rfl, .nil⟩
  have J1 : Cal P w K mg base 2 "_law_figures" [] (zc K kR) := ⟨KH, Ke, _, [], uY JJ T J3, KY, JJ.kp, JJ.binds fun _ _ _ _ _ _ us hl => match us, hl with | [_, _], _ => rfl, .nil⟩
  have JZ : Cal P w K mg base 3 "_law_body" [] (zc K uA) := ⟨KF, Kc, _, [], jF JH T J3 J1, KU, JH.kp, JH.binds fun _ _ _ _ _ _ us hl => match us, hl with | [_], _ => rfl, .nil⟩
  have J6 : Cal P w K mg base 4 "_law_piece" [] (zc K uW) := ⟨KM, Kj, _, [], jy JO T J3 JZ, K3, JO.kp, JO.binds fun _ _ _ _ _ _ us hl => match us, hl with | [_], _ => rfl, .nil⟩
  have J0 : Cal P w K mg base 1 "_law_cell_at" [] (zc K vL) := ⟨KG, Kd, _, [], uX JI T, KW, JI.kp, JI.binds fun _ _ _ _ _ _ us hl => match us, hl with | [_, _], _ => rfl, .nil⟩
  have J4 : Cal P w K mg base 1 "_law_outside" [] (zc K yI) := ⟨KK, Kh, _, [], u4 JM T, K1, JM.kp, JM.binds fun _ _ _ _ _ _ us hl => match us, hl with | [_], _ => rfl, .nil⟩
  have J5 : Cal P w K mg base 1 "_law_parted" [] (zc K jr) := ⟨KL, Ki, _, [], qy JN T, K2, JN.kp, JN.binds fun _ _ _ _ _ _ us hl => match us, hl with | [_], _ => rfl, .nil⟩
  have J7 : Cal P w K mg base 2 "_law_read" [] (zc K jt) := ⟨KN, Kk, _, [], jG JP T J4 J5, K4, JP.kp, JP.binds fun _ _ _ _ _ _ us hl => match us, hl with | [_], _ => rfl, .nil⟩
  have J2 : Cal P w K mg base 1 "_law_is" [] (zc K Xl) := ⟨KI, Kf, _, [], Z6 JK T, KZ, JK.kp, JK.binds fun _ _ _ _ _ _ us hl => match us, hl with | [_, _], _ => rfl, .nil⟩
  exact QW JS T c_Reader JW JX J6 J0 J7 J2
theorem txt_mk {K : PySem.W.Frag} {h : Heap} {mg : Str → Option Value} {C : Addr} {t_MOST_NUMBERS t_MOST_FIGURES t_OPENING : Tok} (X : K.In h) (G : h.Ns mainGlobals mg)
    (n_len : PySem.W.nsIn K mainGlobals "len" = some none)
    (n_range : PySem.W.nsIn K mainGlobals "range" = some none)
    (n_int : PySem.W.nsIn K mainGlobals "int" = some none)
    (n_any : PySem.W.nsIn K mainGlobals "any" = some none)
    (n_tuple : PySem.W.nsIn K mainGlobals "tuple" = some none)
    (n_enumerate : PySem.W.nsIn K mainGlobals "enumerate" = some none)
    (n_isinstance : PySem.W.nsIn K mainGlobals "isinstance" = some none)
    (n_list : PySem.W.nsIn K mainGlobals "list" = some none)
    (n_bool : PySem.W.nsIn K mainGlobals "bool" = some none)
    (g_MOST_NUMBERS : PySem.W.nsIn K mainGlobals "MOST_NUMBERS" = some (some (.int 6 t_MOST_NUMBERS)))
    (g_MOST_FIGURES : PySem.W.nsIn K mainGlobals "MOST_FIGURES" = some (some (.int 3 t_MOST_FIGURES)))
    (g_OPENING : PySem.W.nsIn K mainGlobals "OPENING" = some (some (.str "~" t_OPENING)))
    (aC : PySem.W.nsIn K mainGlobals "Reader" = some (some (.ref C)))
    (pg : PySem.W.plainGet K C Str.empty = true) (hd : PySem.W.hasDictIn K C = true) (po : PySem.W.plainOver K C = true) (sa : PySem.W.findIn K (.ref C) "__setattr__" = some (some (.builtin "object.__setattr__")))
    (a_begun : PySem.W.findIn K (.ref C) "begun" = some none)
    : Txt K mg C :=
  ⟨PySem.W.mg_none_of X G n_len, PySem.W.mg_none_of X G n_range, PySem.W.mg_none_of X G n_int, PySem.W.mg_none_of X G n_any, PySem.W.mg_none_of X G n_tuple, PySem.W.mg_none_of X G n_enumerate, PySem.W.mg_none_of X G n_isinstance, PySem.W.mg_none_of X G n_list, PySem.W.mg_none_of X G n_bool, ⟨t_MOST_NUMBERS, PySem.W.mg_of X G g_MOST_NUMBERS⟩, ⟨t_MOST_FIGURES, PySem.W.mg_of X G g_MOST_FIGURES⟩, ⟨t_OPENING, PySem.W.mg_of X G g_OPENING⟩, PySem.W.mg_of X G aC, ⟨⟨pg, hd, po, sa⟩, a_begun⟩⟩
end K06
noncomputable def PySem.W.Fast.tw15306668152180916762 : Unit := ()
noncomputable def PySem.W.Fast.tw1421665700327951485 : Unit := ()
noncomputable def PySem.W.Fast.tw9299170932692552284 : Unit := ()
noncomputable def PySem.W.Fast.tw3304323906713650860 : Unit := ()
noncomputable def PySem.W.Fast.tw12577239213697611408 : Unit := ()
noncomputable def PySem.W.Fast.tw9648347812424090076 : Unit := ()
noncomputable def PySem.W.Fast.tw14775477282256360830 : Unit := ()
noncomputable def PySem.W.Fast.tw46108360569062201 : Unit := ()
noncomputable def PySem.W.Fast.tw11745031685675869972 : Unit := ()
noncomputable def PySem.W.Fast.tw12427010386191580569 : Unit := ()
noncomputable def PySem.W.Fast.tw7710791064835169016 : Unit := ()
noncomputable def PySem.W.Fast.tw10654169297180790354 : Unit := ()
noncomputable def PySem.W.Fast.tw14634539451317776064 : Unit := ()
noncomputable def PySem.W.Fast.tw9538581343669573973 : Unit := ()
noncomputable def PySem.W.Fast.tw8391022818037063826 : Unit := ()
noncomputable def PySem.W.Fast.tw17951688698183413258 : Unit := ()
noncomputable def PySem.W.Fast.tw315650287361854980 : Unit := ()
noncomputable def PySem.W.Fast.tw16957829472023261368 : Unit := ()
noncomputable def PySem.W.Fast.tw515212282314770719 : Unit := ()
noncomputable def PySem.W.Fast.tw12048796790320224786 : Unit := ()
noncomputable def PySem.W.Fast.tw5997896754370390554 : Unit := ()
noncomputable def PySem.W.Fast.tw6253281027882090 : Unit := ()
noncomputable def PySem.W.Fast.tw1215511056353779360 : Unit := ()
noncomputable def PySem.W.Fast.tw13691354832272430737 : Unit := ()
noncomputable def PySem.W.Fast.tw17503540086744668903 : Unit := ()
noncomputable def PySem.W.Fast.tw5888651219599819845 : Unit := ()
noncomputable def PySem.W.Fast.tw41210945550982050 : Unit := ()
noncomputable def PySem.W.Fast.tw10639222827451108872 : Unit := ()
noncomputable def PySem.W.Fast.tw1361944614355548647 : Unit := ()
noncomputable def PySem.W.Fast.tw3400088828466810282 : Unit := ()
noncomputable def PySem.W.Fast.tw1063255344214766923 : Unit := ()
open PySem PySem.W PyProof.Rows
set_option maxRecDepth 100000 in
set_option maxHeartbeats 0 in
theorem PySem.Challenge.cw_signscreen_k06_signs_read_holds : PySem.Challenge.rw_signscreen_k06_signs_read.Holds := by
  w_on; o_law; k_head; (case hw => w_witness2)
  k_fill
  refine L2.walkW (l := PySem.Challenge.rw_signscreen_k06_signs_read) (n := 63) (k := 5) (x := "_law_script") (s := L2.sLaw5) rfl (by decide) rfl ⟨rfl, by decide, by decide, rfl⟩ (fun w h Y => PySem.W.kIn_of Y) ?F (fun ns O R hl hb hR => ⟨ns, rfl, fun n h => (hb n h).mono (by decide), hl, hR⟩)
  case F =>
    intro w mg fa h KX G hmg
    refine' K06.all_mk ?T hmg ?e_Reader ?e_m_open_row ?e_m_end_row ?e_m_read_sign ?e_m_read ?KA ?KC ?Kz ?KD ?Ku ?Ks ?Kq ?Kx ?Kr ?Kv ?Kw ?Ky ?Kt ?KB
    case T =>
      refine' K06.txt_mk KX G ?n_len ?n_range ?n_int ?n_any ?n_tuple ?n_enumerate ?n_isinstance ?n_list ?n_bool ?g_MOST_NUMBERS ?g_MOST_FIGURES ?g_OPENING ?aC ?pg ?hd ?po ?sa ?a_begun
      (case n_len => k_is)
      (case n_range => k_is)
      (case n_int => k_is)
      (case n_any => k_is)
      (case n_tuple => k_is)
      (case n_enumerate => k_is)
      (case n_isinstance => k_is)
      (case n_list => k_is)
      (case n_bool => k_is)
      (case g_MOST_NUMBERS => k_is)
      (case g_MOST_FIGURES => k_is)
      (case g_OPENING => k_is)
      (case aC => k_is)
      (case pg => k_is)
      (case hd => k_is)
      (case po => k_is)
      (case sa => k_is)
      (case a_begun => k_is)
    case e_Reader =>
      refine' K06.mk_Reader ?mk ?a1 ?i1 ?kc ?l ?c ?k
      (case mk => k_is); (case a1 => k_is); (case i1 => k_is); (case kc => k_is); (case l => k_is); (case c => k_is); (case k => k_is)
    case e_m_open_row =>
      refine' K06.mt_open_row ?a1 ?i1 ?l ?c ?k
      (case a1 => k_is); (case i1 => k_is); (case l => k_is); (case c => k_is); (case k => k_is)
    case e_m_end_row =>
      refine' K06.mt_end_row ?a1 ?i1 ?l ?c ?k
      (case a1 => k_is); (case i1 => k_is); (case l => k_is); (case c => k_is); (case k => k_is)
    case e_m_read_sign =>
      refine' K06.mt_read_sign ?a1 ?i1 ?l ?c ?k
      (case a1 => k_is); (case i1 => k_is); (case l => k_is); (case c => k_is); (case k => k_is)
    case e_m_read =>
      refine' K06.mt_read ?a1 ?i1 ?l ?c ?k
      (case a1 => k_is); (case i1 => k_is); (case l => k_is); (case c => k_is); (case k => k_is)
    all_goals (refine' K06.fk KX G ?a ?l ?c ?k; (case a => k_is); (case l => k_is); (case c => k_is); (case k => k_is))
