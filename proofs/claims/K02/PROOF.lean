import PyProof.Rows.All
import Wide.All
import OpenK.AllK
import Wide.FinOn
import Lean
import PyProof.EqAt
import PyProof.EqKinds
import PyProof.TupleCall
import KE.KTryMore
import KE.KDictOf
import PyProof.AttrMissHeap
import PyProof.Seq
import PyProof.Rows.Tup
import KE.KDictSum
import PyProof.Rows.SortWalk
import PyProof.EnumStmt
import PyProof.EnumMake
import PyProof.EnumFor
import PyProof.Rows.Range3
import PyProof.ReprRoads
import PyProof.Rows.MinMaxN
import KE.KMinBuiltin
import PyProof.Rows.CallKwBuiltin
import KE.KTabLook
import KE.LcSums
import KE.KIntText
import PyProof.Rows.StrIndexOr
import PyProof.FString5
import PyProof.StrBlockH
import PyProof.SliceStr2
import KE.KDictList
import PyProof.ListRange
import PyProof.StrLawsChain
import PyProof.StrLawsTight
import KE.IntTextLaws
import PyProof.Rows.StrSplitAre
import PyProof.Rows.ReprOcc
import PyProof.Rows.StrFin3
import PyProof.Draws
import PyProof.ZipIter
import PyProof.StrCalls
import PyProof.DictItems
import KE.KPairComp
import PyProof.MeetsSeq2
import PyProof.Rows.FStr
import PyProof.Rows.StrInSeq3
import PyProof.ExcBaseAll.ValueError
import KE.RegKTryMore
import KE.RegKIsAll
import PySem.Challenge.RW_signscreen_k02_ink_texts
set_option compiler.extract_closed false
set_option Elab.async false
set_option linter.all false
set_option maxRecDepth 100000
set_option maxHeartbeats 4000000
namespace L2
open PySem PySem.Spec PyProof.Rows
noncomputable abbrev Key := Sum Int Str
noncomputable def XQ : Key → Value → Bool
  | .inl k, v => Value.isInt k v
  | .inr x, v => Value.isStrOf x v
noncomputable def Js (w : World) : Key → Int
  | .inl k => hashInt k
  | .inr x => hashStr w x
theorem zK : ∀ {k : Key} {v : Value}, XQ k v = true → (∃ i t, k = Sum.inl i ∧ v = Value.int i t) ∨ (∃ x t, k = Sum.inr x ∧ v = Value.str x t)
  | .inl i, v, h => by
    obtain ⟨t, e⟩ := Value.isInt_shape (k := i) (v := v) h
    exact .inl ⟨i, t, rfl, e⟩
  | .inr x, v, h => by
    obtain ⟨t, e⟩ := Value.isStrOf_shape (x := x) (v := v) h
    exact .inr ⟨x, t, rfl, e⟩
theorem UD (a b : Int) : decide ((Sum.inl a : Key) = Sum.inl b) = (a == b) := by
  by_cases e : a = b
  · subst e; simp
  · have h : ¬ (Sum.inl a : Key) = Sum.inl b := fun q => e (Sum.inl.inj q)
    rw [decide_eq_false h]
    exact (beq_eq_false_iff_ne.mpr e).symm
theorem UE (a b : Str) : decide ((Sum.inr a : Key) = Sum.inr b) = decide (a = b) := by
  by_cases e : a = b
  · subst e; simp
  · have h : ¬ (Sum.inr a : Key) = Sum.inr b := fun q => e (Sum.inr.inj q)
    rw [decide_eq_false h, decide_eq_false e]
theorem UF (a : Int) (b : Str) : decide ((Sum.inl a : Key) = Sum.inr b) = false := decide_eq_false (fun q => nomatch q)
theorem UG (a : Str) (b : Int) : decide ((Sum.inr a : Key) = Sum.inl b) = false := decide_eq_false (fun q => nomatch q)
noncomputable def uy (prog : Program) (w : World) : PySem.KeyKind prog w Key where
  is := XQ
  hash := Js w
  inj := fun v a b ha hb => by
    rcases zK ha with ⟨i, t, rfl, rfl⟩ | ⟨x, t, rfl, rfl⟩
    · rcases zK hb with ⟨j, u, rfl, e⟩ | ⟨y, u, rfl, e⟩
      · injection e with e1 _; rw [e1]
      · exact nomatch e
    · rcases zK hb with ⟨j, u, rfl, e⟩ | ⟨y, u, rfl, e⟩
      · exact nomatch e
      · injection e with e1 _; rw [e1]
  byValue := fun k v h => by
    rcases zK h with ⟨i, t, rfl, rfl⟩ | ⟨x, t, rfl, rfl⟩ <;> rfl
  pyHash := fun hv h => by
    rcases zK hv with ⟨i, t, rfl, rfl⟩ | ⟨x, t, rfl, rfl⟩
    · exact wpAny_pyHash_int h
    · exact wpAny_pyHash_str h
  eqBool := fun hu hv h => by
    rcases zK hu with ⟨i, t, rfl, rfl⟩ | ⟨x, t, rfl, rfl⟩
    · rcases zK hv with ⟨j, u, rfl, rfl⟩ | ⟨y, u, rfl, rfl⟩
      · rw [UD] at h; exact wpAny_eqBool_int h
      · rw [UF] at h; exact SeqAt.EqAt.int_str i t y u _ _ _ _ h
    · rcases zK hv with ⟨j, u, rfl, rfl⟩ | ⟨y, u, rfl, rfl⟩
      · rw [UG] at h; exact SeqAt.EqAt.str_int x t j u _ _ _ _ h
      · rw [UE] at h; exact wpAny_eqBool_str h
  «strs» := fun k x t v h => by
    rcases zK h with ⟨i, u, rfl, e⟩ | ⟨y, u, rfl, e⟩
    · exact nomatch e
    · injection e with e1 _
      subst e1
      cases v <;> rfl
end L2
namespace L2
open PySem PySem.Spec PyProof.Rows
inductive V where
  | non | bl (b : Bool) | int (i : Int) | str (x : Str) | byt (b : Array UInt8) | flt (b : UInt64) | ref (a : Addr) | ty (n : String)
  deriving DecidableEq
noncomputable def RelV : V → Value → Prop
  | .non, u => u = Value.none
  | .bl b, u => u = Value.bool b
  | .int i, u => ∃ t, u = Value.int i t
  | .str x, u => ∃ t, u = Value.str x t
  | .byt b, u => ∃ t, u = Value.bytes b t
  | .flt b, u => ∃ t, u = Value.float b t
  | .ref a, u => u = Value.ref a
  | .ty n, u => u = Value.type n
noncomputable abbrev Vals : List V → List Value → Prop := Paired RelV
theorem Vals.length {xs : List V} {us : List Value} (r : Vals xs us) : xs.length = us.length := Paired.length r
theorem Vals.get : ∀ {xs : List V} {us : List Value} {i : Nat} {x : V}, Vals xs us → xs[i]? = some x → ∃ u, us[i]? = some u ∧ RelV x u
  | _, _, _, _, .nil, e => by simp at e
  | _, _, 0, _, .cons r _, e => by simp at e; subst e; exact ⟨_, rfl, r⟩
  | _, _, i + 1, x, .cons _ t, e => by
    obtain ⟨u, h1, h2⟩ := Vals.get (i := i) (x := x) t (by simpa using e)
    exact ⟨u, by simpa using h1, h2⟩
theorem Vals.set {x : V} {u : Value} (r : RelV x u) : ∀ {xs : List V} {us : List Value} (i : Nat), Vals xs us → Vals (xs.set i x) (us.set i u)
  | _, _, _, .nil => .nil
  | _, _, 0, .cons _ t => .cons r t
  | _, _, i + 1, .cons q t => .cons q (Vals.set r i t)
theorem Vals.append : ∀ {xs ys : List V} {us ws : List Value}, Vals xs us → Vals ys ws → Vals (xs ++ ys) (us ++ ws)
  | _, _, _, _, .nil, s => s
  | _, _, _, _, .cons r t, s => .cons r (Vals.append t s)
theorem Vals.take : ∀ {xs : List V} {us : List Value} (n : Nat), Vals xs us → Vals (xs.take n) (us.take n)
  | _, _, 0, _ => .nil
  | _, _, _ + 1, .nil => .nil
  | _, _, n + 1, .cons r t => .cons r (Vals.take n t)
theorem Vals.drop : ∀ {xs : List V} {us : List Value} (n : Nat), Vals xs us → Vals (xs.drop n) (us.drop n)
  | _, _, 0, r => r
  | _, _, _ + 1, .nil => .nil
  | _, _, n + 1, .cons _ t => Vals.drop n t
noncomputable def xO : Option V → Option Value → Prop
  | some v, some u => RelV v u
  | none, none => True
  | _, _ => False
noncomputable def KV {κ : Type} : List (κ × V) → List (κ × Value) → Prop := Paired fun (p : κ × V) (q : κ × Value) => p.1 = q.1 ∧ RelV p.2 q.2
noncomputable def kV : Key → V
  | .inl i => .int i
  | .inr x => .str x
inductive HO where
  | lst (xs : List V)
  | tup (xs : List V)
  | dK (kvs : List (Key × V)) | dT (kvs : List (List Key × V))
  | set (S : Int → Bool) (n : Nat)
  | ins (C dx : Addr) (fs : List (Str × V))
  | own (x : Addr)
  | xd (fs : List (Str × V))
  | met (f x : Addr)
  | rng (lo hi : Int)
  | frz (o : Obj) (u : HO)
  | tbl (ps : Array Value)
  | ext (φ : Heap → Prop)
noncomputable abbrev Hp := Addr → Option HO
noncomputable def upd (H : Hp) (a : Addr) (o : HO) : Hp := fun b => if b = a then some o else H b
theorem ze {H : Hp} {a : Addr} {o : HO} : upd H a o a = some o := by unfold upd; rw [if_pos rfl]
theorem za {H : Hp} {a b : Addr} {o : HO} (h : b ≠ a) : upd H a o b = H b := by unfold upd; rw [if_neg h]
theorem j9 {H : Hp} {a : Addr} {o u : HO} : upd (upd H a o) a u = upd H a u := by
  funext b; unfold upd; split <;> rfl
theorem zF {H : Hp} {a b : Addr} {o : HO} (h : H a = some o) (h' : H b = none) : a ≠ b := by
  intro e; subst e; rw [h] at h'; cases h'
section
variable (P : Program) (w : World)
noncomputable def zI (H : Hp) (h : Heap) (a : Addr) : HO → Prop
  | .lst xs => xs.length ≤ sizeLine ∧ ∃ (its : List Value) (n : Nat), Vals xs its ∧ h.get? a = some { cls := .type "list", data := .seq its.toArray n }
  | .tup xs => xs.length ≤ sizeLine ∧ ∃ its : List Value, Vals xs its ∧ IsTup h a its.toArray
  | .dK kvs => kvs.length ≤ sizeLine ∧ (a == sysModules) = false ∧ ∃ vs, KV kvs vs ∧ h.DictOf (uy P w) a vs
  | .dT kvs => kvs.length ≤ sizeLine ∧ (a == sysModules) = false ∧ ∃ xs : List (List Key × Addr × Value),
      Paired (fun (p : List Key × V) (q : List Key × Addr × Value) => p.1 = q.1 ∧ H q.2.1 = some (.tup (p.1.map kV)) ∧ RelV p.2 q.2.2) kvs xs ∧
      ∃ o es ep, h.get? a = some o ∧ o.ExactDict ∧ o.data = .dict es ep ∧ es.toList = xs.map (entryOfKey (tupleKind (uy P w))) ∧ (xs.map (·.1)).Nodup
  | .set S n => h.SetOf (intKind P w) a S n
  | .ins C dx fs => H dx = some (.own a) ∧ fs.length ≤ 1000 ∧ dx ≠ a ∧ h.get? a = some (PySem.W.instObj C dx) ∧
      ∃ mA, h.Ns1 dx mA ∧ (∀ f, xO (fs.lookup f) (mA f)) ∧ PySem.Within mA (fs.map (·.1))
  | .own _ => ∃ o, h.get? a = some o
  | .xd fs => ∃ mA, h.Ns1 a mA ∧ ∀ f, xO (fs.lookup f) (mA f)
  | .rng lo hi => ∃ t u v, h.get? a = some { cls := .type "range", data := .fields #[.int lo t, .int hi u, .int 1 v] }
  | .frz o u => h.get? a = some o ∧ zI H h a u
  | .tbl ps => h.get? a = some { cls := .none, data := .fields ps }
  | .met f x => h.get? a = some (PySem.W.methodObj (.ref f) (.ref x))
  | .ext φ => φ h ∧ (∃ o, h.get? a = some o) ∧ ∀ h1 h2 : Heap, φ h1 → (∀ o, h1.get? a = some o → h2.get? a = some o) → φ h2
noncomputable def HOk (H : Hp) (h : Heap) : Prop := ∀ a o, H a = some o → zI P w H h a o
end
section
variable {P : Program} {w : World} {H H' : Hp} {h h' : Heap} {a : Addr} {o : HO}
theorem zI.lt (x : zI P w H h a o) : a < h.objs.size := by
  cases o with
  | lst xs => obtain ⟨_, _, _, _, e⟩ := x; exact Heap.lt_size e
  | tup xs => obtain ⟨_, _, _, p⟩ := x; exact p.lt
  | dK kvs => obtain ⟨_, _, _, _, o, _, _, e, _⟩ := x; exact Heap.lt_size e
  | dT kvs => obtain ⟨_, _, _, _, o, _, _, e, _⟩ := x; exact Heap.lt_size e
  | set S n => obtain ⟨o, _, _, _, e, _⟩ := x; exact Heap.lt_size e
  | ins C dx fs => obtain ⟨_, _, _, e, _⟩ := x; exact Heap.lt_size e
  | own y => obtain ⟨_, e⟩ := x; exact Heap.lt_size e
  | xd fs => obtain ⟨_, ⟨_, _, _, e, _⟩, _⟩ := x; exact Heap.lt_size e
  | rng lo hi => obtain ⟨_, _, _, e⟩ := x; exact Heap.lt_size e
  | frz ob u => obtain ⟨e, _⟩ := x; exact Heap.lt_size e
  | tbl ps => exact Heap.lt_size (show h.get? a = some _ from x)
  | met f y => exact Heap.lt_size (show h.get? a = some _ from x)
  | ext φ => obtain ⟨_, ⟨_, e⟩, _⟩ := x; exact Heap.lt_size e
theorem Paired.mapP {α β : Type} {F G : α → β → Prop} : ∀ {l₁ : List α} {l₂ : List β}, Paired F l₁ l₂ → (∀ a b, F a b → G a b) → Paired G l₁ l₂
  | _, _, .nil, _ => .nil
  | _, _, .cons r t, f => .cons (f _ _ r) (Paired.mapP t f)
theorem Paired.imp' {α β : Type} {F G : α → β → Prop} (f : ∀ a b, F a b → G a b) {l₁ : List α} {l₂ : List β} (r : Paired F l₁ l₂) : Paired G l₁ l₂ := Paired.mapP r f
theorem zI.stay (x : zI P w H h a o) (k : ∀ b u, (b = a ∨ H b = some (.own a)) → h.get? b = some u → h'.get? b = some u)
    (ho : ∀ b, H b = some (.own a) → H' b = some (.own a)) (ht : ∀ b xs, H b = some (.tup xs) → H' b = some (.tup xs)) : zI P w H' h' a o := by
  induction o with
  | lst xs => obtain ⟨z, its, n, r, e⟩ := x; exact ⟨z, its, n, r, k _ _ (.inl rfl) e⟩
  | tup xs => obtain ⟨z, its, r, ob, e, c⟩ := x; exact ⟨z, its, r, ob, k _ _ (.inl rfl) e, c⟩
  | dK kvs => obtain ⟨z, y, vs, r, ob, es, ep, e, c⟩ := x; exact ⟨z, y, vs, r, ob, es, ep, k _ _ (.inl rfl) e, c⟩
  | dT kvs =>
    obtain ⟨z, y, xs, r, ob, es, ep, e, c⟩ := x
    exact ⟨z, y, xs, Paired.mapP r fun p q z => ⟨z.1, ht _ _ z.2.1, z.2.2⟩, ob, es, ep, k _ _ (.inl rfl) e, c⟩
  | set S n => obtain ⟨ob, es, ep, t, e, c⟩ := x; exact ⟨ob, es, ep, t, k _ _ (.inl rfl) e, c⟩
  | ins C dx fs =>
    obtain ⟨d, z, ne, e, mA, ⟨od, es, ep, e2, c⟩, r⟩ := x
    exact ⟨ho _ d, z, ne, k _ _ (.inl rfl) e, mA, ⟨od, es, ep, k _ _ (.inr d) e2, c⟩, r⟩
  | own y => obtain ⟨ob, e⟩ := x; exact ⟨ob, k _ _ (.inl rfl) e⟩
  | xd fs => obtain ⟨mA, ⟨od, es, ep, e, c⟩, r⟩ := x; exact ⟨mA, ⟨od, es, ep, k _ _ (.inl rfl) e, c⟩, r⟩
  | rng lo hi => obtain ⟨t, u, v, e⟩ := x; exact ⟨t, u, v, k _ _ (.inl rfl) e⟩
  | frz ob u ih => obtain ⟨e, q⟩ := x; exact ⟨k _ _ (.inl rfl) e, ih q⟩
  | tbl ps =>
    have e : h.get? a = some { cls := .none, data := .fields ps } := x
    show h'.get? a = some { cls := .none, data := .fields ps }
    exact k a _ (.inl rfl) e
  | met f y =>
    have e : h.get? a = some (PySem.W.methodObj (.ref f) (.ref y)) := x
    show h'.get? a = some (PySem.W.methodObj (.ref f) (.ref y))
    exact k a _ (.inl rfl) e
  | ext φ => obtain ⟨p, ⟨o, e⟩, st⟩ := x; exact ⟨st _ _ p fun o q => k _ _ (.inl rfl) q, ⟨o, k _ _ (.inl rfl) e⟩, st⟩
theorem HOk.lt (x : HOk P w H h) (e : H a = some o) : a < h.objs.size := (x a o e).lt
theorem HOk.fresh (x : HOk P w H h) (e : h.objs.size ≤ a) : H a = none := by
  cases q : H a with
  | none => rfl
  | some u => exact absurd (Nat.lt_of_lt_of_le (x.lt q) e) (Nat.lt_irrefl _)
theorem HOk.kept (x : HOk P w H h) (k : ∀ b u, h.get? b = some u → h'.get? b = some u) : HOk P w H h' := fun a o e =>
  (x a o e).stay (fun b u _ q => k b u q) (fun _ q => q) fun _ _ q => q
theorem HOk.laid (x : HOk P w H h) (k : ∀ b u, h.get? b = some u → h'.get? b = some u) (hp : h.objs.size ≤ a) (new : zI P w (upd H a o) h' a o) : HOk P w (upd H a o) h' := fun b u e => by
  have hn := x.fresh hp
  by_cases hb : b = a
  · subst hb; rw [ze] at e; cases e; exact new
  · rw [za hb] at e
    exact (x b u e).stay (fun c v _ q => k c v q) (fun c q => by rw [za (zF q hn)]; exact q) fun c xs q => by rw [za (zF q hn)]; exact q
end
noncomputable def Rd (H : Hp) (a : Addr) (u : HO) : Prop := H a = some u ∨ ∃ o, H a = some (.frz o u)
theorem Rd.of {H : Hp} {a : Addr} {u : HO} (h : H a = some u) : Rd H a u := .inl h
theorem Rd.ok {P : Program} {w : World} {H : Hp} {h : Heap} {a : Addr} {u : HO} (r : Rd H a u) (x : HOk P w H h) : zI P w H h a u := by
  rcases r with r | ⟨o, r⟩
  · exact x a u r
  · obtain ⟨_, q⟩ := x a _ r
    exact q
noncomputable def Mut : Option HO → Prop
  | some (.lst _) => True
  | some (.dK _) => True
  | some (.dT _) => True
  | some (.set _ _) => True
  | some (.ins _ _ _) => True
  | some (.ext _) => True
  | _ => False
section
variable {P : Program} {w : World} {H : Hp} {h h' : Heap} {x e : Addr} {o' : HO}
theorem HOk.write (ok : HOk P w H h) (mu : Mut (H x)) (he : e = x ∨ H e = some (.own x)) (k : ∀ b u, b ≠ e → h.get? b = some u → h'.get? b = some u) (heo : ∃ u, h'.get? e = some u)
    (new : zI P w (upd H x o') h' x o') : HOk P w (upd H x o') h' := fun b u q => by
  have nown : ∀ c y, H c = some (.own y) → c ≠ x := fun c y r z => by subst z; rw [r] at mu; exact mu
  have ntup : ∀ c xs, H c = some (.tup xs) → c ≠ x := fun c xs r z => by subst z; rw [r] at mu; exact mu
  by_cases hb : b = x
  · subst hb; rw [ze] at q; cases q; exact new
  · rw [za hb] at q
    by_cases hbe : b = e
    · have q' : H b = some (.own x) := by
        rcases he with z | z
        · exact absurd (hbe.trans z) hb
        · rw [hbe]; exact z
      rw [q] at q'; cases q'
      obtain ⟨v, hv⟩ := heo
      exact ⟨v, by rw [hbe]; exact hv⟩
    · refine (ok b u q).stay (fun c v hc r => k c v ?_ r) (fun c r => by rw [za (nown c b r)]; exact r) fun c xs r => by rw [za (ntup c xs r)]; exact r
      rcases hc with rfl | hc
      · exact hbe
      · rintro rfl
        rcases he with z | z
        · exact nown c b hc z
        · rw [hc] at z; cases z; exact hb rfl
end
structure Un (fs ex : List Addr) (H H' : Hp) (h h' : Heap) : Prop where
  keep : ∀ b o, h.get? b = some o → H b = none → b ∉ fs → b ∉ ex → h'.get? b = some o
  slot : ∀ b o, h.get? b = some o → H b = none → b ∈ fs → b ∉ ex → ∃ sl, h'.get? b = some { o with slots := sl }
  free : ∀ b o, h.get? b = some o → H b = none → b ∉ ex → H' b = none
  there : ∀ b o, h.get? b = some o → b ∉ ex → ∃ o', h'.get? b = some o'
  tups : ∀ b xs, H b = some (.tup xs) → H' b = some (.tup xs)
  frzs : ∀ b o u, H b = some (.frz o u) → H' b = some (.frz o u)
  tbls : ∀ b ps, H b = some (.tbl ps) → ∃ more, H' b = some (.tbl (ps ++ more))
section
variable {fs fs' ex ex' : List Addr} {H H1 H2 : Hp} {h h1 h2 h' : Heap} {a x e : Addr} {o : HO}
theorem Un.any (u : Un fs ex H H1 h h1) {b : Addr} {ob : Obj} (q : h.get? b = some ob) (n : H b = none) (hx : b ∉ ex) : ∃ sl, h1.get? b = some { ob with slots := sl } := by
  by_cases hb : b ∈ fs
  · exact u.slot b ob q n hb hx
  · exact ⟨ob.slots, u.keep b ob q n hb hx⟩
theorem Un.trans (a : Un fs ex H H1 h h1) (b : Un fs ex H1 H2 h1 h2) : Un fs ex H H2 h h2 where
  keep := fun c ob q n hc hx => b.keep c ob (a.keep c ob q n hc hx) (a.free c ob q n hx) hc hx
  slot := fun c ob q n hc hx => by
    obtain ⟨sl, e1⟩ := a.slot c ob q n hc hx
    obtain ⟨sl', e2⟩ := b.slot c _ e1 (a.free c ob q n hx) hc hx
    exact ⟨sl', e2⟩
  free := fun c ob q n hx => by
    obtain ⟨o', e1⟩ := a.there c ob q hx
    exact b.free c o' e1 (a.free c ob q n hx) hx
  there := fun c ob q hx => by
    obtain ⟨o', e1⟩ := a.there c ob q hx
    exact b.there c o' e1 hx
  tups := fun c xs q => b.tups c xs (a.tups c xs q)
  frzs := fun c ob xs q => b.frzs c ob xs (a.frzs c ob xs q)
  tbls := fun c ps q => by
    obtain ⟨m1, e1⟩ := a.tbls c ps q
    obtain ⟨m2, e2⟩ := b.tbls c _ e1
    exact ⟨m1 ++ m2, by rw [e2, Array.append_assoc]⟩
theorem Un.kept (k : ∀ b u, h.get? b = some u → h'.get? b = some u) : Un fs ex H H h h' :=
  ⟨fun b ob q _ _ _ => k b ob q, fun b ob q _ _ _ => ⟨ob.slots, k b ob q⟩, fun _ _ _ n _ => n, fun b ob q _ => ⟨ob, k b ob q⟩, fun _ _ q => q, fun _ _ _ q => q, fun _ ps q => ⟨#[], by rw [q]; simp⟩⟩
theorem Un.refl : Un fs ex H H h h := Un.kept fun _ _ q => q
theorem Un.laid (k : ∀ b u, h.get? b = some u → h'.get? b = some u) (hp : h.objs.size ≤ a) (hn : H a = none) : Un fs ex H (upd H a o) h h' where
  keep := fun b u q _ _ _ => k b u q
  slot := fun b u q _ _ _ => ⟨u.slots, k b u q⟩
  free := fun b u q n _ => by rw [za (Nat.ne_of_lt (Nat.lt_of_lt_of_le (Heap.lt_size q) hp))]; exact n
  there := fun b u q _ => ⟨u, k b u q⟩
  tups := fun b xs q => by rw [za (zF q hn)]; exact q
  frzs := fun b u xs q => by rw [za (zF q hn)]; exact q
  tbls := fun b ps q => ⟨#[], by rw [za (zF q hn), q]; simp⟩
theorem Un.write (mu : Mut (H x)) (he : e = x ∨ H e = some (.own x)) (k : ∀ b u, b ≠ e → h.get? b = some u → h'.get? b = some u) (heo : ∃ u, h'.get? e = some u) : Un fs ex H (upd H x o) h h' := by
  have hx : ∀ b, H b = none → b ≠ x := fun b n z => by subst z; rw [n] at mu; exact mu
  have hb : ∀ b, H b = none → b ≠ e := fun b n z => by
    subst z
    rcases he with r | r
    · exact hx b n r
    · rw [n] at r; cases r
  have hm : ∀ b u, H b = some u → ¬ Mut (some u) → b ≠ x := fun b u q nm z => by subst z; rw [q] at mu; exact nm mu
  refine ⟨fun b u q n _ _ => k b u (hb b n) q, fun b u q n _ _ => ⟨u.slots, k b u (hb b n) q⟩, fun b u q n _ => by rw [za (hx b n)]; exact n, fun b u q _ => ?_,
    fun b xs q => by rw [za (hm b _ q fun z => z)]; exact q, fun b u xs q => by rw [za (hm b _ q fun z => z)]; exact q, fun b ps q => ⟨#[], by rw [za (hm b _ q fun z => z), q]; simp⟩⟩
  by_cases hbe : b = e
  · subst hbe; exact heo
  · exact ⟨u, k b u hbe q⟩
theorem Un.mono (u : Un fs ex H H1 h h1) (hs : ∀ b ∈ fs, b ∈ fs') (hx : ∀ b ∈ ex, b ∈ ex') : Un fs' ex' H H1 h h1 :=
  ⟨fun b ob q n hb he => u.keep b ob q n (fun z => hb (hs b z)) fun z => he (hx b z), fun _ _ q n _ he => u.any q n fun z => he (hx _ z), fun b ob q n he => u.free b ob q n fun z => he (hx b z), fun b ob q he => u.there b ob q fun z => he (hx b z), u.tups, u.frzs, u.tbls⟩
end
noncomputable def trk (h : Heap) (H : Hp) : List Addr := (List.range h.objs.size).filter fun a => (H a).isSome
noncomputable def xP (h : Heap) (H : Hp) : Heap := PySem.W.hideAll h (trk h H)
theorem ZF (h : Heap) (H : Hp) : (xP h H).objs.size = h.objs.size := PySem.W.hideAll_size _ _
theorem YC {h : Heap} {H : Hp} {b : Addr} {o : Obj} (e : h.get? b = some o) (n : H b = none) : (xP h H).get? b = some o :=
  PySem.W.hideAll_get _ e fun hm => by
    have q : (H b).isSome = true := (List.mem_filter.mp hm).2
    rw [n] at q; simp at q
theorem Vz {h : Heap} {H : Hp} {b : Addr} {o : Obj} (e : (xP h H).get? b = some o) : h.get? b = some o ∧ H b = none := by
  have e' : h.get? b = some o := PySem.W.of_hideAll (trk h H) e
  refine ⟨e', ?_⟩
  cases q : H b with
  | none => rfl
  | some x =>
    have hm : b ∈ trk h H := List.mem_filter.mpr ⟨List.mem_range.mpr (Heap.lt_size e'), by simp [q]⟩
    have z : (xP h H).get? b = none := PySem.W.hideAll_none (trk h H) hm
    rw [z] at e; cases e
noncomputable def VA (g h : Heap) (L : Addr) : List (Addr × Obj) := (List.range h.objs.size).filterMap fun a => if a = L ∨ (g.get? a).isSome = true then none else (h.get? a).map fun o => (a, o)
noncomputable def zv (g h : Heap) (L d : Addr) : List (Addr × Obj) := (VA g h L).filter fun p => decide (p.1 ≠ d)
end L2
namespace L2
open PySem PySem.Spec PyProof.Rows
structure Mod (K : PySem.W.Frag) (mg : Str → Option Value) (base : Heap) : Prop where
  kin : K.In base
  glob : base.Ns mainGlobals mg
  blt : ∃ mb, base.Ns builtinsNs mb ∧ ∀ x : Str, x ≠ "__name__" → mb x = bootBuiltins x
  nolimit : base.NoLimit
structure Cx where
  prog : Program
  w : World
  K : PySem.W.Frag
  mg : Str → Option Value
  base : Heap
  A : Around
  N : List Str
  s₀ : Shared
  H₀ : Hp
  env : Env
  outer : List Env
  stack : List Env
  ex : List Addr
  fn : Str → Bool
  calm : Bool
  pn : List (Addr × Obj)
  xe : Value → Shared → Prop
noncomputable def frs (l : List Env) : List Addr := l.filterMap (·.frame)
noncomputable abbrev Cx.fs (X : Cx) : List Addr := frs X.outer
noncomputable def Vis (sc : Scope) (x : Str) : Prop := sc.names.lookup x = some .local ∨ sc.names.lookup x = some .cell ∨ sc.names.lookup x = some .free
noncomputable def Loc (sc : Scope) (x : Str) : Prop := sc.names.lookup x = some .local ∨ sc.names.lookup x = some .cell
noncomputable def Look (env : Env) (h : Heap) (m : Str → Option Value) (x : Str) (u : Value) : Prop :=
  (env.kindOf x = some .local ∧ m x = some u) ∨ ((env.kindOf x = some .cell ∨ env.kindOf x = some .free) ∧ ∃ c, env.cells.lookup x = some c ∧ h.IsCell c (some u))
structure Cx.Ok (X : Cx) : Prop where
  mod : Mod X.K X.mg X.base
  kind : X.env.scope.kind = .function
  glob : X.env.globals = mainGlobals
  blt : X.env.builtins = builtinsNs
  above : X.s₀.heap.objs.size ≤ X.env.locals
  inj : ∀ x y c, X.env.cells.lookup x = some c → X.env.cells.lookup y = some c → x = y
  has : ∀ x, (X.env.kindOf x = some .cell ∨ X.env.kindOf x = some .free) → ∃ c, X.env.cells.lookup x = some c
  cab : ∀ x c, X.fn x = true → X.env.cells.lookup x = some c → X.s₀.heap.objs.size ≤ c
  hd : X.calm = true → X.A.handled = none
  frames : X.A.frames = some X.stack
  stk : X.stack = X.outer ∨ (X.stack = X.env :: X.outer ∧ X.env.frame = some X.env.locals)
  exf : ∀ b ∈ X.ex, b ≠ X.env.locals ∧ ∀ x c, X.env.cells.lookup x = some c → c ≠ b
  bs : ∀ b o, X.base.get? b = some o → X.s₀.heap.get? b = some o ∧ X.H₀ b = none
  bsz : X.base.objs.size ≤ X.s₀.heap.objs.size
  noex : ∀ b o, X.base.get? b = some o → b ∉ X.ex
  exfs : ∀ b ∈ X.ex, b ∉ X.fs
  funs : X.s₀.heap.FunFrames X.base X.outer
  frf : ∀ b ∈ X.fs, X.H₀ b = none
structure Inv (X : Cx) (pins : List (Addr × Obj)) (σ : List (Option V)) (H : Hp) (s : Shared) : Prop where
  ok : X.Ok
  os : s.os = X.s₀.os
  bare : AllBare s.gens
  base : Un X.fs X.ex X.H₀ H X.s₀.heap s.heap
  loc : ∃ m, s.heap.Ns X.env.locals m ∧ ∀ (i : Nat) (x : Str) (v : V), X.N[i]? = some x → σ[i]? = some (some v) → Vis X.env.scope x → ∃ u, RelV v u ∧ Look X.env s.heap m x u
  cell : ∀ x c, X.env.cells.lookup x = some c → ∃ v, s.heap.IsCell c v
  free : H X.env.locals = none
  freeC : ∀ x c, X.env.cells.lookup x = some c → H c = none
  pin : ∀ p ∈ X.pn ++ pins, s.heap.get? p.1 = some p.2 ∧ H p.1 = none ∧ p.1 ≠ X.env.locals ∧ p.1 ∉ X.fs ∧ ∀ v, p.2.data ≠ .cell v
  hok : HOk X.prog X.w H s.heap
  len : σ.length = X.N.length
section
variable {X : Cx} {pins : List (Addr × Obj)} {σ : List (Option V)} {H H' : Hp} {s : Shared} {h' : Heap}
theorem Cx.Ok.nofr (ok : X.Ok) {b : Addr} {o : Obj} (e : X.base.get? b = some o) : b ∉ X.fs := fun hb => by
  have := (ok.funs.mem hb).1
  rw [e] at this; cases this
theorem Inv.bs (I : Inv X pins σ H s) : ∀ b o, X.base.get? b = some o → s.heap.get? b = some o ∧ H b = none := fun b o e =>
  ⟨I.base.keep b o (I.ok.bs b o e).1 (I.ok.bs b o e).2 (I.ok.nofr e) (I.ok.noex b o e), I.base.free b o (I.ok.bs b o e).1 (I.ok.bs b o e).2 (I.ok.noex b o e)⟩
theorem Inv.bk (I : Inv X pins σ H s) : ∀ b o, X.base.get? b = some o → s.heap.get? b = some o := fun b o e => (I.bs b o e).1
theorem Inv.mod (I : Inv X pins σ H s) : Mod X.K X.mg X.base := I.ok.mod
theorem Inv.kIn (I : Inv X pins σ H s) : X.K.In s.heap := I.ok.mod.kin.keeps I.bk
theorem Inv.nolimit (I : Inv X pins σ H s) : s.heap.NoLimit := I.ok.mod.nolimit.keeps I.bk
theorem Inv.fr (I : Inv X pins σ H s) : ∃ m, Fr X.base X.env.locals s.heap m :=
  let ⟨m, hn, _⟩ := I.loc
  ⟨m, hn, I.bk, Nat.le_trans I.ok.bsz I.ok.above⟩
theorem Inv.lt (I : Inv X pins σ H s) : X.env.locals < s.heap.objs.size := let ⟨_, hn, _⟩ := I.loc; hn.lt
theorem Inv.sz (I : Inv X pins σ H s) : X.s₀.heap.objs.size ≤ s.heap.objs.size := Nat.le_trans I.ok.above (Nat.le_of_lt I.lt)
theorem Inv.nofs (I : Inv X pins σ H s) {a : Addr} (h : s.heap.objs.size ≤ a) : a ∉ X.fs := fun hb => by
  obtain ⟨_, o, ho, _⟩ := I.ok.funs.mem hb
  exact absurd (Nat.lt_of_lt_of_le (Heap.lt_size ho) (Nat.le_trans I.sz h)) (Nat.lt_irrefl _)
theorem Inv.cne (I : Inv X pins σ H s) : ∀ x c, X.env.cells.lookup x = some c → c ≠ X.env.locals := fun x c e z => by
  obtain ⟨v, o, ho, hd⟩ := I.cell x c e
  obtain ⟨m, ⟨o', es, ep, ho', hd', _⟩, _⟩ := I.loc
  rw [z, ho'] at ho; cases ho; rw [hd'] at hd; cases hd
theorem Inv.funs (I : Inv X pins σ H s) : s.heap.FunFrames X.base X.outer := by
  have all : ∀ (l : List Env), (∀ b ∈ frs l, b ∈ X.fs) → X.s₀.heap.FunFrames X.base l → s.heap.FunFrames X.base l := by
    intro l
    induction l with
    | nil => intro _ _; trivial
    | cons env r ih =>
      intro hs hl
      obtain ⟨hk, ⟨L, o, hf, hn, ho, hd⟩, hr⟩ := hl
      have hL : L ∈ X.fs := hs L (by unfold frs; rw [List.filterMap_cons, hf]; exact List.mem_cons_self)
      obtain ⟨sl, e⟩ := I.base.slot L o ho (I.ok.frf L hL) hL fun z => I.ok.exfs L z hL
      exact ⟨hk, ⟨L, _, hf, hn, e, hd⟩, ih (fun b hb => hs b (by unfold frs; rw [List.filterMap_cons, hf]; exact List.mem_cons_of_mem _ hb)) hr⟩
  exact all X.outer (fun _ hb => hb) I.ok.funs
theorem Inv.stack (I : Inv X pins σ H s) : s.heap.FunFrames X.base X.stack := by
  rcases I.ok.stk with e | ⟨e, hf⟩
  · rw [e]; exact I.funs
  · rw [e]
    obtain ⟨m, hn, _⟩ := I.loc
    refine .cons (by rw [I.ok.kind]; decide) hf hn ?_ I.funs
    exact Heap.get?_none_of_le (Nat.le_trans I.ok.bsz I.ok.above)
theorem Inv.stkSub (I : Inv X pins σ H s) : ∀ b ∈ frs X.stack, b ∈ X.env.locals :: X.fs := fun b hb => by
  rcases I.ok.stk with e | ⟨e, hf⟩
  · rw [e] at hb; exact List.mem_cons_of_mem _ hb
  · rw [e] at hb
    unfold frs at hb
    rw [List.filterMap_cons, hf] at hb
    exact hb
theorem Inv.stkFree (I : Inv X pins σ H s) : ∀ b ∈ frs X.stack, H b = none := fun b hb => by
  rcases List.mem_cons.mp (I.stkSub b hb) with e | hb
  · rw [e]; exact I.free
  · obtain ⟨_, o, ho, _⟩ := I.ok.funs.mem hb
    exact I.base.free b o ho (I.ok.frf b hb) fun z => I.ok.exfs b z hb
theorem Inv.step {g' : Array GenState} {t' : Nat} {d' : Drawn} {ch : List Addr} (I : Inv X pins σ H s)
    (hch : ∀ b ∈ ch, (b ∈ X.ex ∨ X.s₀.heap.objs.size ≤ b) ∧ b ≠ X.env.locals ∧ (∀ x c, X.env.cells.lookup x = some c → c ≠ b) ∧ ∀ p ∈ X.pn ++ pins, p.1 ≠ b)
    (keep : ∀ b o, b ≠ X.env.locals → b ∉ X.fs → b ∉ ch → s.heap.get? b = some o → H b = none → h'.get? b = some o)
    (slot : ∀ b o, b ≠ X.env.locals → b ∈ X.fs → b ∉ ch → s.heap.get? b = some o → H b = none → ∃ sl, h'.get? b = some { o with slots := sl }) (free : ∀ b o, b ∉ ch → s.heap.get? b = some o → H b = none → H' b = none)
    (there : ∀ b o, b ∉ ch → s.heap.get? b = some o → ∃ o', h'.get? b = some o')
    (tups : ∀ b xs, H b = some (.tup xs) → H' b = some (.tup xs)) (frzs : ∀ b o u, H b = some (.frz o u) → H' b = some (.frz o u)) (tbls : ∀ b ps, H b = some (.tbl ps) → ∃ more, H' b = some (.tbl (ps ++ more)))
    (ns : ∀ m, s.heap.Ns X.env.locals m → h'.Ns X.env.locals m) (hok : HOk X.prog X.w H' h') (hg : AllBare g') :
    Inv X pins σ H' { s with heap := h', gens := g', drawn := d', toks := t' } := by
  have neL : ∀ b o, X.s₀.heap.get? b = some o → b ≠ X.env.locals := fun b o e => Nat.ne_of_lt (Nat.lt_of_lt_of_le (Heap.lt_size e) I.ok.above)
  have neC : ∀ b o, X.s₀.heap.get? b = some o → b ∉ X.ex → b ∉ ch := fun b o e hx hb => by
    rcases (hch b hb).1 with z | z
    · exact hx z
    · exact absurd (Nat.lt_of_lt_of_le (Heap.lt_size e) z) (Nat.lt_irrefl _)
  have cellK : ∀ x c, X.env.cells.lookup x = some c → ∀ v, s.heap.IsCell c v → h'.IsCell c v := fun x c e v ⟨o, ho, hd⟩ => by
    have nch : c ∉ ch := fun z => (hch c z).2.2.1 x c e rfl
    by_cases hc : c ∈ X.fs
    · obtain ⟨sl, q⟩ := slot c o (I.cne x c e) hc nch ho (I.freeC x c e)
      exact ⟨_, q, hd⟩
    · exact ⟨o, keep c o (I.cne x c e) hc nch ho (I.freeC x c e), hd⟩
  refine ⟨I.ok, I.os, hg, ⟨fun b o e n hb hx => ?_, fun b o e n hb hx => ?_, fun b o e n hx => ?_, fun b o e hx => ?_, fun b xs e => tups b xs (I.base.tups b xs e), fun b o xs e => frzs b o xs (I.base.frzs b o xs e), fun b ps e => ?_⟩, ?_, fun x c e => ?_, ?_, fun x c e => ?_, fun p hp => ?_, hok, I.len⟩
  · exact keep b o (neL b o e) hb (neC b o e hx) (I.base.keep b o e n hb hx) (I.base.free b o e n hx)
  · obtain ⟨sl, e1⟩ := I.base.slot b o e n hb hx
    obtain ⟨sl', e2⟩ := slot b _ (neL b o e) hb (neC b o e hx) e1 (I.base.free b o e n hx)
    exact ⟨sl', e2⟩
  · obtain ⟨o', e1⟩ := I.base.there b o e hx
    exact free b o' (neC b o e hx) e1 (I.base.free b o e n hx)
  · obtain ⟨o', e1⟩ := I.base.there b o e hx
    exact there b o' (neC b o e hx) e1
  · obtain ⟨m1, e1⟩ := I.base.tbls b ps e
    obtain ⟨m2, e2⟩ := tbls b _ e1
    exact ⟨m1 ++ m2, by rw [e2, Array.append_assoc]⟩
  · obtain ⟨m, hn, hl⟩ := I.loc
    refine ⟨m, ns m hn, fun i x v e1 e2 e3 => ?_⟩
    obtain ⟨u, r, l⟩ := hl i x v e1 e2 e3
    refine ⟨u, r, ?_⟩
    rcases l with l | ⟨k, c, e, z⟩
    · exact .inl l
    · exact .inr ⟨k, c, e, cellK x c e _ z⟩
  · obtain ⟨v, z⟩ := I.cell x c e
    exact ⟨v, cellK x c e v z⟩
  · obtain ⟨m, ⟨o, _, _, ho, _⟩, _⟩ := I.loc
    exact free _ o (fun z => (hch _ z).2.1 rfl) ho I.free
  · obtain ⟨v, o, ho, hd⟩ := I.cell x c e
    exact free c o (fun z => (hch c z).2.2.1 x c e rfl) ho (I.freeC x c e)
  · obtain ⟨e, n, ne, nf, d⟩ := I.pin p hp
    have nch : p.1 ∉ ch := fun z => (hch p.1 z).2.2.2 p hp rfl
    exact ⟨keep p.1 p.2 ne nf nch e n, free p.1 p.2 nch e n, ne, nf, d⟩
theorem Inv.un {t' : Nat} (I : Inv X pins σ H s) (u : Un X.fs [] H H' s.heap h') (hok : HOk X.prog X.w H' h') : Inv X pins σ H' { s with heap := h', toks := t' } := by
  obtain ⟨m, ⟨o, es, ep, ho, r⟩, _⟩ := id I.loc
  obtain ⟨sl, hL⟩ := u.any ho I.free (by simp)
  exact I.step (g' := s.gens) (d' := s.drawn) (ch := []) (fun _ z => nomatch z) (fun b o _ hb _ e n => u.keep b o e n hb (by simp)) (fun b o _ hb _ e n => u.slot b o e n hb (by simp)) (fun b o _ e n => u.free b o e n (by simp)) (fun b o _ e => u.there b o e (by simp)) u.tups u.frzs u.tbls (fun m' hm => by
    obtain ⟨o', es', ep', ho', r'⟩ := hm
    rw [ho] at ho'; cases ho'
    exact ⟨_, es', ep', hL, r'⟩) hok I.bare
theorem Inv.call {g' : Array GenState} {t' : Nat} {d' : Drawn} {ch : List Addr} (I : Inv X pins σ H s) (u : Un (frs X.stack) ch H H' s.heap h') (hok : HOk X.prog X.w H' h') (hg : AllBare g')
    (hch : ∀ b ∈ ch, (b ∈ X.ex ∨ X.s₀.heap.objs.size ≤ b) ∧ b ≠ X.env.locals ∧ (∀ x c, X.env.cells.lookup x = some c → c ≠ b) ∧ ∀ p ∈ X.pn ++ pins, p.1 ≠ b) :
    Inv X pins σ H' { s with heap := h', gens := g', drawn := d', toks := t' } := by
  obtain ⟨m, ⟨o, es, ep, ho, r⟩, _⟩ := id I.loc
  obtain ⟨sl, hL⟩ := u.any ho I.free fun z => (hch _ z).2.1 rfl
  exact I.step (ch := ch) hch (fun b o hL hb hc e n => u.keep b o e n (fun z => (List.mem_cons.mp (I.stkSub b z)).elim hL hb) hc) (fun b o _ _ hc e n => u.any e n hc) (fun b o hc e n => u.free b o e n hc) (fun b o hc e => u.there b o e hc) u.tups u.frzs u.tbls (fun m' hm => by
    obtain ⟨o', es', ep', ho', r'⟩ := hm
    rw [ho] at ho'; cases ho'
    exact ⟨_, es', ep', hL, r'⟩) hok hg
theorem Inv.turned {t' : Nat} {it : Addr} (I : Inv X pins σ H s) (k : ∀ b o, b ≠ it → s.heap.get? b = some o → h'.get? b = some o) (hn : H it = none) (hL : it ≠ X.env.locals)
    (h1 : it ∈ X.ex ∨ X.s₀.heap.objs.size ≤ it) (h2 : ∀ x c, X.env.cells.lookup x = some c → c ≠ it) (h3 : ∀ p ∈ X.pn ++ pins, p.1 ≠ it) : Inv X pins σ H { s with heap := h', toks := t' } := by
  have nit : ∀ b u, H b = some u → b ≠ it := fun b u e z => by rw [z, hn] at e; cases e
  refine I.step (g' := s.gens) (d' := s.drawn) (ch := [it]) (fun b hb => ?_) (fun b o _ _ hc e _ => k b o (fun z => hc (by simp [z])) e) (fun b o _ _ hc e _ => ⟨o.slots, k b o (fun z => hc (by simp [z])) e⟩) (fun _ _ _ _ n => n)
    (fun b o hc e => ⟨o, k b o (fun z => hc (by simp [z])) e⟩) (fun _ _ e => e) (fun _ _ _ e => e) (fun b ps e => ⟨#[], by rw [e]; simp⟩) (fun m hm => ?_) (fun b u e => ?_) I.bare
  · have e : b = it := by simpa using hb
    subst e
    exact ⟨h1, hL, h2, h3⟩
  · obtain ⟨o, es, ep, ho, r⟩ := hm
    exact ⟨o, es, ep, k _ o (Ne.symm hL) ho, r⟩
  · refine (I.hok b u e).stay (fun c v hc q => k c v ?_ q) (fun _ q => q) fun _ _ q => q
    rcases hc with z | z
    · rw [z]; exact nit b u e
    · exact nit c _ z
theorem Inv.tok (I : Inv X pins σ H s) (t : Nat) : Inv X pins σ H { s with toks := t } := I.un (h' := s.heap) (t' := t) Un.refl I.hok
theorem Inv.kept {t' : Nat} (I : Inv X pins σ H s) (k : ∀ b u, s.heap.get? b = some u → h'.get? b = some u) : Inv X pins σ H { s with heap := h', toks := t' } := I.un (Un.kept k) (I.hok.kept k)
theorem Inv.laid {a : Addr} {o : HO} {t' : Nat} (I : Inv X pins σ H s) (k : ∀ b u, s.heap.get? b = some u → h'.get? b = some u) (hp : s.heap.objs.size ≤ a) (new : zI X.prog X.w (upd H a o) h' a o) :
    Inv X pins σ (upd H a o) { s with heap := h', toks := t' } := I.un (Un.laid k hp (I.hok.fresh hp)) (I.hok.laid k hp new)
theorem Inv.write {x e : Addr} {o : HO} {t' : Nat} (I : Inv X pins σ H s) (mu : Mut (H x)) (he : e = x ∨ H e = some (.own x)) (k : ∀ b u, b ≠ e → s.heap.get? b = some u → h'.get? b = some u) (heo : ∃ u, h'.get? e = some u)
    (new : zI X.prog X.w (upd H x o) h' x o) : Inv X pins σ (upd H x o) { s with heap := h', toks := t' } := I.un (Un.write mu he k heo) (I.hok.write mu he k heo new)
theorem Inv.weak {σ' : List (Option V)} (I : Inv X pins σ H s) (hl : σ'.length = σ.length) (w : ∀ (i : Nat) v, σ'[i]? = some (some v) → σ[i]? = some (some v)) : Inv X pins σ' H s :=
  ⟨I.ok, I.os, I.bare, I.base, let ⟨m, hn, hl'⟩ := I.loc; ⟨m, hn, fun i x v e1 e2 e3 => hl' i x v e1 (w i v e2) e3⟩, I.cell, I.free, I.freeC, I.pin, I.hok, hl.trans I.len⟩
theorem Inv.pins_of {pins' : List (Addr × Obj)} (I : Inv X pins σ H s) (h : ∀ p ∈ pins', s.heap.get? p.1 = some p.2 ∧ H p.1 = none ∧ p.1 ≠ X.env.locals ∧ p.1 ∉ X.fs ∧ ∀ v, p.2.data ≠ .cell v) : Inv X pins' σ H s :=
  ⟨I.ok, I.os, I.bare, I.base, I.loc, I.cell, I.free, I.freeC, fun p hp => (List.mem_append.mp hp).elim (fun z => I.pin p (List.mem_append_left _ z)) (h p), I.hok, I.len⟩
theorem qV {N : List Str} (hN : N.Nodup) {i j : Nat} {x : Str} (a : N[i]? = some x) (b : N[j]? = some x) : i = j := by
  obtain ⟨h1, e1⟩ := List.getElem?_eq_some_iff.mp a
  obtain ⟨h2, e2⟩ := List.getElem?_eq_some_iff.mp b
  exact (List.getElem_inj hN).mp (e1.trans e2.symm)
theorem qf {M : Model} {A : Around} {E : Value → Shared → Prop} {i : Nat} {x : Str} {v : V} {u : Value} {Q : Unit → Shared → Prop} (I : Inv X pins σ H s) (hN : X.N.Nodup) (hi : X.N[i]? = some x) (hx : Loc X.env.scope x) (r : RelV v u)
    (h : ∀ s', Inv X pins (σ.set i (some v)) H s' → (∃ a, Heap.SameBut a s.heap s'.heap ∧ (a = X.env.locals ∨ X.env.cells.lookup x = some a)) → Q () s') (hf : X.fn x = true ∨ X.env.scope.names.lookup x = some .local := by first | exact .inl rfl | exact .inr rfl | assumption) : wpAny M A (storeName X.env x u) Q E s := by
  obtain ⟨m, hn, hl⟩ := id I.loc
  have hcls : (X.env.scope.kind == .class || (X.env.scope.kind == .module && X.env.locals != X.env.globals)) = false := by rw [I.ok.kind]; rfl
  have hiσ : i < σ.length := by rw [I.len]; exact (List.getElem?_eq_some_iff.mp hi).1
  have cne := I.cne
  have tracked : ∀ {a : Addr} {h' : Heap}, (∃ o, s.heap.get? a = some o ∧ H a = none) → Heap.SameBut a s.heap h' → HOk X.prog X.w H h' := fun {a h'} ha hs b ob e => by
    obtain ⟨_, _, hfree⟩ := ha
    refine (I.hok b ob e).stay (fun c w' hc q => (hs.2 c ?_).trans q) (fun _ q => q) fun _ _ q => q
    rintro rfl
    rcases hc with rfl | hc
    · rw [hfree] at e; cases e
    · rw [hfree] at hc; cases hc
  rcases hx with hk | hk
  · refine wpAny_storeName_local hk hn (fun h' hn' hs => ?_) hcls
    obtain ⟨oL, _, _, hoL, _⟩ := id hn
    refine h _ ⟨I.ok, I.os, I.bare, ⟨fun b o e n hb hx => ?_, fun b o e n hb hx => ?_, I.base.free, fun b o e hx => ?_, I.base.tups, I.base.frzs, I.base.tbls⟩, ⟨_, hn', fun j y v' e1 e2 e3 => ?_⟩, fun y c e => ?_, I.free, I.freeC, fun p hp => ?_, tracked ⟨oL, hoL, I.free⟩ hs, by simpa using I.len⟩ ⟨_, hs, .inl rfl⟩
    · exact (hs.2 b (Nat.ne_of_lt (Nat.lt_of_lt_of_le (Heap.lt_size e) I.ok.above))).trans (I.base.keep b o e n hb hx)
    · obtain ⟨sl, e1⟩ := I.base.slot b o e n hb hx
      exact ⟨sl, (hs.2 b (Nat.ne_of_lt (Nat.lt_of_lt_of_le (Heap.lt_size e) I.ok.above))).trans e1⟩
    · obtain ⟨o', e1⟩ := I.base.there b o e hx
      exact ⟨o', (hs.2 b (Nat.ne_of_lt (Nat.lt_of_lt_of_le (Heap.lt_size e) I.ok.above))).trans e1⟩
    · by_cases hj : j = i
      · subst hj
        rw [hi] at e1; cases e1
        rw [List.getElem?_set_self hiσ] at e2
        cases e2
        exact ⟨u, r, .inl ⟨hk, by simp⟩⟩
      · rw [List.getElem?_set_ne (Ne.symm hj)] at e2
        obtain ⟨u', r', q⟩ := hl j y v' e1 e2 e3
        refine ⟨u', r', ?_⟩
        rcases q with ⟨k, e⟩ | ⟨k, c, e, z⟩
        · refine .inl ⟨k, ?_⟩
          have : y ≠ x := fun e => hj (qV hN e1 (e ▸ hi))
          simp [this, e]
        · exact .inr ⟨k, c, e, z.sameBut hs (cne y c e)⟩
    · obtain ⟨w', z⟩ := I.cell y c e
      exact ⟨w', z.sameBut hs (cne y c e)⟩
    · obtain ⟨e, n, ne, nf, d⟩ := I.pin p hp
      exact ⟨(hs.2 p.1 ne).trans e, n, ne, nf, d⟩
  · have hfn : X.fn x = true := by
      rcases hf with z | z
      · exact z
      · rw [z] at hk; cases hk
    obtain ⟨c, hc⟩ := I.ok.has x (.inl hk)
    obtain ⟨w', z⟩ := I.cell x c hc
    refine wpAny_storeName_cell I.ok.kind hk hc z (fun h' hc' hs => ?_)
    obtain ⟨oc, hoc, hocd⟩ := id z
    refine h { s with heap := h' } ⟨I.ok, I.os, I.bare, ⟨fun b o e n hb hx => ?_, fun b o e n hb hx => ?_, I.base.free, fun b o e hx => ?_, I.base.tups, I.base.frzs, I.base.tbls⟩, ⟨m, hn.sameBut hs (Ne.symm (cne x c hc)), fun j y v' e1 e2 e3 => ?_⟩, fun y c' e => ?_, I.free, I.freeC, fun p hp => ?_, tracked ⟨oc, hoc, I.freeC x c hc⟩ hs, by simpa using I.len⟩ ⟨c, hs, .inr hc⟩
    · exact (hs.2 b (Nat.ne_of_lt (Nat.lt_of_lt_of_le (Heap.lt_size e) (I.ok.cab x c hfn hc)))).trans (I.base.keep b o e n hb hx)
    · obtain ⟨sl, e1⟩ := I.base.slot b o e n hb hx
      exact ⟨sl, (hs.2 b (Nat.ne_of_lt (Nat.lt_of_lt_of_le (Heap.lt_size e) (I.ok.cab x c hfn hc)))).trans e1⟩
    · obtain ⟨o', e1⟩ := I.base.there b o e hx
      exact ⟨o', (hs.2 b (Nat.ne_of_lt (Nat.lt_of_lt_of_le (Heap.lt_size e) (I.ok.cab x c hfn hc)))).trans e1⟩
    · by_cases hj : j = i
      · subst hj
        rw [hi] at e1; cases e1
        rw [List.getElem?_set_self hiσ] at e2
        cases e2
        exact ⟨u, r, .inr ⟨.inl hk, c, hc, hc'⟩⟩
      · rw [List.getElem?_set_ne (Ne.symm hj)] at e2
        obtain ⟨u', r', q⟩ := hl j y v' e1 e2 e3
        refine ⟨u', r', ?_⟩
        rcases q with q | ⟨k, c', e, z'⟩
        · exact .inl q
        · refine .inr ⟨k, c', e, z'.sameBut hs ?_⟩
          rintro rfl
          exact hj (qV hN e1 (I.ok.inj _ _ _ e hc ▸ hi))
    · by_cases hcc : c' = c
      · subst hcc; exact ⟨_, hc'⟩
      · obtain ⟨w2, z2⟩ := I.cell y c' e
        exact ⟨w2, z2.sameBut hs hcc⟩
    · obtain ⟨e, n, ne, nf, d⟩ := I.pin p hp
      refine ⟨(hs.2 p.1 ?_).trans e, n, ne, nf, d⟩
      intro q
      rw [q, hoc] at e
      have q' : oc = p.2 := Option.some.inj e
      exact d w' (by rw [← q']; exact hocd)
theorem vA {M : Model} {A : Around} {E : Value → Shared → Prop} {i : Nat} {x : Str} {v : V} {u : Value} {Q : Unit → Shared → Prop} (I : Inv X pins σ H s) (hN : X.N.Nodup) (hi : X.N[i]? = some x) (hx : Loc X.env.scope x) (r : RelV v u)
    (h : ∀ s', Inv X pins (σ.set i (some v)) H s' → Q () s') (hf : X.fn x = true ∨ X.env.scope.names.lookup x = some .local := by first | exact .inl rfl | exact .inr rfl | assumption) : wpAny M A (storeName X.env x u) Q E s :=
  qf I hN hi hx r (fun s' I' _ => h s' I') hf
theorem Inv.call' {s' : Shared} {ch : List Addr} (I : Inv X pins σ H s) (ho : s'.os = s.os) (u : Un (frs X.stack) ch H H' s.heap s'.heap) (hok : HOk X.prog X.w H' s'.heap) (hg : AllBare s'.gens)
    (hch : ∀ b ∈ ch, (b ∈ X.ex ∨ X.s₀.heap.objs.size ≤ b) ∧ b ≠ X.env.locals ∧ (∀ x c, X.env.cells.lookup x = some c → c ≠ b) ∧ ∀ p ∈ X.pn ++ pins, p.1 ≠ b) : Inv X pins σ H' s' := by
  obtain ⟨h', g', d', t', o'⟩ := s'
  have e : o' = s.os := ho
  subst e
  exact I.call (g' := g') (t' := t') (d' := d') u hok hg hch
end
noncomputable abbrev XK := Value → Option Addr → Hp → Prop
noncomputable abbrev St := List (Option V)
noncomputable abbrev VK := V → Hp → Prop
noncomputable abbrev TE := St → Hp → VK → Prop
noncomputable abbrev TT := St → Hp → (Bool → Hp → Prop) → Prop
noncomputable abbrev TA := St → Hp → (List V → Hp → Prop) → Prop
structure Ends where
  nx : St → Hp → Prop
  rt : VK
  bk : St → Hp → Prop := fun _ _ => False
  ct : St → Hp → Prop := fun _ _ => False
noncomputable abbrev TS := Ends → St → Hp → Prop
noncomputable def EP (X : Cx) (pins : List (Addr × Obj)) (σ : St) (Q : VK) (u : Value) (s' : Shared) : Prop := ∃ v H', Inv X pins σ H' s' ∧ RelV v u ∧ Q v H'
noncomputable def TP (X : Cx) (pins : List (Addr × Obj)) (σ : St) (Q : Bool → Hp → Prop) (b : Bool) (s' : Shared) : Prop := ∃ H', Inv X pins σ H' s' ∧ Q b H'
noncomputable def AP (X : Cx) (pins : List (Addr × Obj)) (σ : St) (Q : List V → Hp → Prop) (us : List Value) (s' : Shared) : Prop := ∃ vs H', Inv X pins σ H' s' ∧ Vals vs us ∧ Q vs H'
noncomputable def SP (X : Cx) (pins : List (Addr × Obj)) (D : Ends) (f : Flow) (s' : Shared) : Prop :=
  match f with
  | .next => ∃ σ' H', Inv X pins σ' H' s' ∧ D.nx σ' H'
  | .brk => ∃ σ' H', Inv X pins σ' H' s' ∧ D.bk σ' H'
  | .cont => ∃ σ' H', Inv X pins σ' H' s' ∧ D.ct σ' H'
  | .ret u => ∃ v σ' H', Inv X pins σ' H' s' ∧ RelV v u ∧ D.rt v H'
noncomputable def PE (X : Cx) (e : Expr) (t : TE) : Prop :=
  ∀ (pins : List (Addr × Obj)) (s : Shared) (σ : St) (H : Hp) (Q : VK), Inv X pins σ H s → t σ H Q → wpAny (model X.prog X.w) X.A (eval e X.env) (EP X pins σ Q) X.xe s
noncomputable def PT (X : Cx) (e : Expr) (t : TT) : Prop :=
  ∀ (pins : List (Addr × Obj)) (s : Shared) (σ : St) (H : Hp) (Q : Bool → Hp → Prop), Inv X pins σ H s → t σ H Q → wpAny (model X.prog X.w) X.A (isTrue e X.env (eval e X.env)) (TP X pins σ Q) X.xe s
noncomputable def PW (X : Cx) (e : Expr) (t : TT) : Prop :=
  ∀ (whole : Sem Value) (pins : List (Addr × Obj)) (s : Shared) (σ : St) (H : Hp) (Q : Bool → Hp → Prop), Inv X pins σ H s → t σ H Q → wpAny (model X.prog X.w) X.A (isTrue e X.env whole) (TP X pins σ Q) X.xe s
theorem PW.pt {X : Cx} {e : Expr} {t : TT} (h : PW X e t) : PT X e t := h _
noncomputable def PA (X : Cx) (es : List Expr) (t : TA) : Prop :=
  ∀ (pos : Pos) (pins : List (Addr × Obj)) (s : Shared) (σ : St) (H : Hp) (Q : List V → Hp → Prop), Inv X pins σ H s → t σ H Q → wpAny (model X.prog X.w) X.A (spliced (backTo pos (starEach es X.env))) (AP X pins σ Q) X.xe s
noncomputable def PS (X : Cx) (st : Stmt) (t : TS) : Prop :=
  ∀ (pins : List (Addr × Obj)) (s : Shared) (σ : St) (H : Hp) (D : Ends), Inv X pins σ H s → t D σ H → wpAny (model X.prog X.w) X.A (exec st X.env) (SP X pins D) X.xe s
noncomputable def PSs (X : Cx) (st : List Stmt) (t : TS) : Prop :=
  ∀ (pins : List (Addr × Obj)) (s : Shared) (σ : St) (H : Hp) (D : Ends), Inv X pins σ H s → t D σ H → wpAny (model X.prog X.w) X.A (execs st X.env) (SP X pins D) X.xe s
theorem thn {α : Type} {t : Sem α} {Q Q' : α → Shared → Prop} {M : Model} {A : Around} {E : Value → Shared → Prop} {s : Shared} (h : wpAny M A t Q E s) (hQ : ∀ a s, Q a s → Q' a s) : wpAny M A t Q' E s := wpAny_mono h hQ fun _ _ x => x
end L2
namespace L2
open PySem PySem.Spec PyProof.Rows
section
variable {X : Cx}
noncomputable def uz (i : Nat) : TE := fun σ H Q => ∃ v, σ[i]? = some (some v) ∧ Q v H
noncomputable def tC (v : V) : TE := fun _ H Q => Q v H
theorem UH {i : Nat} {x : Str} {pos : Pos} (hN : X.N[i]? = some x) (hv : Vis X.env.scope x) (hd : (x == ("__debug__" : Str)) = false := by decide) (hcd : (x == ("__classdict__" : Str)) = false := by decide) : PE X (.Name x pos) (uz i) := by
  intro pins s σ H Q I h
  obtain ⟨v, e, h⟩ := h
  obtain ⟨m, hn, hl⟩ := I.loc
  obtain ⟨u, r, l⟩ := hl i x v hN e hv
  have fin : EP X pins σ Q u s := ⟨v, H, I, r, h⟩
  rcases l with ⟨hk, hm⟩ | ⟨hk, c, hc, hcell⟩
  · exact wpAny_Name (wpAny_loadName_local I.ok.kind hk hn hm fin) hd
  · rcases hk with hk | hk
    · exact wpAny_Name (wpAny_loadName_cell I.ok.kind hk hc hcell fin) hd
    · exact wpAny_Name (wpAny_loadName_free I.ok.kind hk hc hcell fin hcd) hd
theorem zb {i j pos} : PE X (.Constant (.int i) j pos) (tC (.int i)) := fun _ _ _ H _ I h => wpAny_Constant_int ⟨.int i, H, I.tok _, ⟨_, rfl⟩, h⟩
theorem xQ {b j pos} : PE X (.Constant (.bool b) j pos) (tC (.bl b)) := fun _ _ _ H _ I h => Constant_bool ⟨.bl b, H, I, rfl, h⟩
theorem vS {j pos} : PE X (.Constant .none j pos) (tC .non) := fun _ _ _ H _ I h => Constant_none ⟨.non, H, I, rfl, h⟩
theorem zn {x j pos} : PE X (.Constant (.str x) j pos) (tC (.str x)) := fun _ _ _ H _ I h => Calls.Constant_str ⟨.str x, H, I.tok _, ⟨_, rfl⟩, h⟩
noncomputable def Gl (X : Cx) (x : Str) : Prop := X.env.kindOf x = some .globalImplicit
theorem xC {E : Value → Shared → Prop} {pins : List (Addr × Obj)} {s : Shared} {σ : St} {H : Hp} {x : Str} {u : Value} {pos : Pos} {Q : Value → Shared → Prop} (I : Inv X pins σ H s) (hg : Gl X x) (hm : X.mg x = some u) (h : Q u s)
    (hd : (x == ("__debug__" : Str)) = false := by decide) : wpAny (model X.prog X.w) X.A (eval (.Name x pos) X.env) Q E s :=
  Calls.Name_function_global I.ok.kind hg (Calls.loadGlobal_global (by rw [I.ok.glob]; exact I.mod.glob.keeps I.bk) hm h) hd
theorem vT {E : Value → Shared → Prop} {pins : List (Addr × Obj)} {s : Shared} {σ : St} {H : Hp} {x : Str} {u : Value} {pos : Pos} {Q : Value → Shared → Prop} (I : Inv X pins σ H s) (hg : Gl X x) (hm : X.mg x = none) (hv : bootBuiltins x = some u) (h : Q u s)
    (hn : x ≠ "__name__" := by decide) (hd : (x == ("__debug__" : Str)) = false := by decide) : wpAny (model X.prog X.w) X.A (eval (.Name x pos) X.env) Q E s := by
  obtain ⟨mb, h1, h2⟩ := I.mod.blt
  exact Calls.Name_function_global I.ok.kind hg (Calls.loadGlobal_builtin (by rw [I.ok.glob]; exact I.mod.glob.keeps I.bk) hm (by rw [I.ok.blt]; exact h1.keeps I.bk) ((h2 x hn).trans hv) h) hd
theorem z0 {x : Str} {v : V} {u : Value} {pos : Pos} (hg : Gl X x) (hm : X.mg x = some u) (r : RelV v u) (hd : (x == ("__debug__" : Str)) = false := by decide) : PE X (.Name x pos) (tC v) :=
  fun _ _ _ H _ I h => xC I hg hm ⟨v, H, I, r, h⟩ hd
theorem xD {x : Str} {v : V} {u : Value} {pos : Pos} (hg : Gl X x) (hm : X.mg x = none) (hv : bootBuiltins x = some u) (r : RelV v u) (hn : x ≠ "__name__" := by decide) (hd : (x == ("__debug__" : Str)) = false := by decide) : PE X (.Name x pos) (tC v) :=
  fun _ _ _ H _ I h => vT I hg hm hv ⟨v, H, I, r, h⟩ hn hd
variable {a b : Expr} {ta tb : TE} {pos : Pos}
noncomputable def tB (t : TE) : TT := fun σ H Q => t σ H fun x H1 => ∃ c, x = .bl c ∧ Q c H1
theorem xE {e : Expr} {t : TE} (h : PE X e t) (he : ∀ whole, isTrue e X.env whole = (do let v ← whole; standAt e.pos; holding [v] (truthy v)) := by intro _; rfl) : PT X e (tB t) := by
  intro pins s σ H Q I hw
  refine isTrue_plain (thn (h pins s σ H _ I hw) fun v s1 ⟨x, H1, I1, r1, q1⟩ => ?_) (he _)
  obtain ⟨d, rfl, q⟩ := q1
  cases r1
  exact wpAny_truthy_bool ⟨H1, I1, q⟩
variable {tA tB' : TT} {zv : List Expr}
noncomputable def YD (t u : TT) : TT := fun σ H Q => t σ H fun c H1 => if c = true then u σ H1 Q else Q false H1
noncomputable def tOr (t u : TT) : TT := fun σ H Q => t σ H fun c H1 => if c = true then Q true H1 else u σ H1 Q
noncomputable def YE (t : TT) : TT := fun σ H Q => t σ H fun c H1 => Q (!c) H1
theorem VB (ha : PT X a tA) : PW X (.BoolOp .And [a] pos) tA := by
  intro wh pins s σ H Q I h
  refine isTrue_and (thn (ha pins s σ H Q I h) fun c s1 e => ?_)
  cases c with
  | true => exact isTrue_and_nil e
  | false => exact e
theorem vV (ha : PT X a tA) : PW X (.BoolOp .Or [a] pos) tA := by
  intro wh pins s σ H Q I h
  refine isTrue_or (thn (ha pins s σ H Q I h) fun c s1 e => ?_)
  cases c with
  | false => exact isTrue_or_nil e
  | true => exact e
theorem UI (ha : PT X a tA) (hb : PW X (.BoolOp .And (b :: zv) pos) tB') : PW X (.BoolOp .And (a :: b :: zv) pos) (YD tA tB') := by
  intro wh pins s σ H Q I h
  refine isTrue_and (thn (ha pins s σ H _ I h) fun c s1 ⟨H1, I1, q1⟩ => ?_)
  cases c with
  | true => exact hb wh pins s1 σ H1 Q I1 q1
  | false => exact ⟨H1, I1, q1⟩
theorem vW (ha : PT X a tA) (hb : PW X (.BoolOp .Or (b :: zv) pos) tB') : PW X (.BoolOp .Or (a :: b :: zv) pos) (tOr tA tB') := by
  intro wh pins s σ H Q I h
  refine isTrue_or (thn (ha pins s σ H _ I h) fun c s1 ⟨H1, I1, q1⟩ => ?_)
  cases c with
  | true => exact ⟨H1, I1, q1⟩
  | false => exact hb wh pins s1 σ H1 Q I1 q1
theorem xF (ha : PT X a tA) : PT X (.UnaryOp .Not a pos) (YE tA) := by
  intro pins s σ H Q I h
  exact isTrue_not (ha pins s σ H (fun c H1 => Q (!c) H1) I h)
noncomputable def kN (ta tb : TE) : TE := fun σ H Q => ta σ H fun x H1 => ∃ c, x = .bl c ∧ if c = true then tb σ H1 Q else Q (.bl false) H1
noncomputable def Jt (ta tb : TE) : TE := fun σ H Q => ta σ H fun x H1 => ∃ c, x = .bl c ∧ if c = true then Q (.bl true) H1 else tb σ H1 Q
noncomputable def kO (ta : TE) : TE := fun σ H Q => ta σ H fun x H1 => ∃ c, x = .bl c ∧ Q (.bl (!c)) H1
theorem qW {op} {t : TE} (h : PE X a t) : PE X (.BoolOp op [a] pos) t := fun pins s σ H Q I hw => BoolOp_one (h pins s σ H Q I hw)
theorem vX (ha : PE X a ta) (hb : PE X (.BoolOp .And (b :: zv) pos) tb) : PE X (.BoolOp .And (a :: b :: zv) pos) (kN ta tb) := by
  intro pins s σ H Q I h
  refine BoolOp_and (thn (ha pins s σ H _ I h) fun v s1 ⟨x, H1, I1, r1, q1⟩ => ?_)
  obtain ⟨c, rfl, q1⟩ := q1
  cases r1
  refine wpAny_truthy_bool ?_
  cases c with
  | true => exact hb pins s1 σ H1 Q I1 q1
  | false => exact ⟨.bl false, H1, I1, rfl, q1⟩
theorem UJ (ha : PE X a ta) : PE X (.UnaryOp .Not a pos) (kO ta) := by
  intro pins s σ H Q I h
  refine UnaryOp_ (thn (ha pins s σ H _ I h) fun v s1 ⟨x, H1, I1, r1, q1⟩ => ?_)
  obtain ⟨c, rfl, q1⟩ := q1
  cases r1
  exact not_of (wpAny_truthy_bool ⟨.bl (!c), H1, I1, rfl, q1⟩)
noncomputable def tIf (t : TT) (ta tb : TE) : TE := fun σ H Q => t σ H fun c H1 => if c = true then ta σ H1 Q else tb σ H1 Q
theorem YF {c : Expr} (hc : PT X c tA) (ha : PE X a ta) (hb : PE X b tb) : PE X (.IfExp c a b pos) (tIf tA ta tb) := by
  intro pins s σ H Q I h
  refine wpAny_IfExp (thn (hc pins s σ H _ I h) fun d s1 ⟨H1, I1, q1⟩ => ?_)
  cases d with
  | true => exact ha pins s1 σ H1 Q I1 q1
  | false => exact hb pins s1 σ H1 Q I1 q1
end
end L2
namespace L2
open PySem PySem.Spec PyProof.Rows
noncomputable def SqL (K : PySem.W.Frag) (H : Hp) (a : Addr) (xs : List V) : Prop :=
  Rd H a (.lst xs) ∨
    ∃ (o : Obj) (its : Array Value) (n : Nat), K.lookup a = some o ∧ o.cls = .type "list" ∧ o.dict = none ∧ o.data = .seq its n ∧ its.size ≤ sizeLine ∧ Vals xs its.toList
noncomputable def SqT (K : PySem.W.Frag) (H : Hp) (a : Addr) (xs : List V) : Prop :=
  Rd H a (.tup xs) ∨
    ∃ (o : Obj) (its : Array Value) (n : Nat), K.lookup a = some o ∧ o.cls = .type "tuple" ∧ o.data = .seq its n ∧ its.size ≤ sizeLine ∧ Vals xs its.toList
noncomputable def Ju : Value → Option V
  | .none => some .non
  | .bool b => some (.bl b)
  | .int i _ => some (.int i)
  | .str x _ => some (.str x)
  | .bytes b _ => some (.byt b)
  | .float b _ => some (.flt b)
  | .ref a => some (.ref a)
  | .type n => some (.ty n)
  | _ => none
theorem RelV.abs {x : V} {u : Value} (r : RelV x u) : Ju u = some x := by
  cases x with
  | non => cases r; rfl
  | bl _ => cases r; rfl
  | int _ => obtain ⟨t, rfl⟩ := r; rfl
  | str _ => obtain ⟨t, rfl⟩ := r; rfl
  | byt _ => obtain ⟨t, rfl⟩ := r; rfl
  | flt _ => obtain ⟨t, rfl⟩ := r; rfl
  | ref _ => cases r; rfl
  | ty _ => cases r; rfl
theorem RelV.inj {x y : V} {u : Value} (r : RelV x u) (q : RelV y u) : x = y := Option.some.inj (r.abs.symm.trans q.abs)
theorem Vals.inj : ∀ {xs ys : List V} {us : List Value}, Vals xs us → Vals ys us → xs = ys
  | _, _, _, .nil, .nil => rfl
  | _, _, _, .cons r t, .cons r' t' => by rw [r.inj r', Vals.inj t t']
section
variable {X : Cx} {pins : List (Addr × Obj)} {σ : St} {H : Hp} {s : Shared} {a : Addr} {xs ys : List V}
theorem SqL.of {K : PySem.W.Frag} (h : H a = some (.lst xs)) : SqL K H a xs := .inl (.inl h)
theorem SqT.of {K : PySem.W.Frag} (h : H a = some (.tup xs)) : SqT K H a xs := .inl (.inl h)
theorem Inv.list (I : Inv X pins σ H s) (h : SqL X.K H a xs) : ∃ its : List Value, Vals xs its ∧ PlainL s.heap a its.toArray ∧ xs.length ≤ sizeLine := by
  rcases h with h | ⟨o, its, n, hk, hc, hd, hs, hz, r⟩
  · obtain ⟨z, its, n, r, e⟩ := h.ok I.hok
    exact ⟨its, r, ⟨_, n, e, rfl, rfl, rfl⟩, z⟩
  · refine ⟨its.toList, r, ⟨o, n, I.kIn a o hk, hc, hd, by simpa using hs⟩, ?_⟩
    have e := r.length
    simp only [Array.length_toList] at e
    omega
theorem Inv.tuple (I : Inv X pins σ H s) (h : SqT X.K H a xs) : ∃ its : List Value, Vals xs its ∧ IsTup s.heap a its.toArray ∧ xs.length ≤ sizeLine := by
  rcases h with h | ⟨o, its, n, hk, hc, hs, hz, r⟩
  · obtain ⟨z, its, r, p⟩ := h.ok I.hok
    exact ⟨its, r, p, z⟩
  · refine ⟨its.toList, r, ⟨o, I.kIn a o hk, hc, n, by simpa using hs⟩, ?_⟩
    have e := r.length
    simp only [Array.length_toList] at e
    omega
theorem Inv.list_inj (I : Inv X pins σ H s) (h : SqL X.K H a xs) (h' : SqL X.K H a ys) : xs = ys := by
  obtain ⟨its, r, ⟨o, n, e, _, _, d⟩, _⟩ := I.list h
  obtain ⟨its', r', ⟨o', n', e', _, _, d'⟩, _⟩ := I.list h'
  rw [e] at e'; cases e'
  rw [d] at d'
  injection d' with d1 _
  have : its = its' := by simpa using congrArg Array.toList d1
  subst this
  exact r.inj r'
theorem Inv.tuple_inj (I : Inv X pins σ H s) (h : SqT X.K H a xs) (h' : SqT X.K H a ys) : xs = ys := by
  obtain ⟨its, r, ⟨o, e, _, n, d⟩, _⟩ := I.tuple h
  obtain ⟨its', r', ⟨o', e', _, n', d'⟩, _⟩ := I.tuple h'
  rw [e] at e'; cases e'
  rw [d] at d'
  injection d' with d1 _
  have : its = its' := by simpa using congrArg Array.toList d1
  subst this
  exact r.inj r'
end
noncomputable abbrev Cx.wish (X : Cx) (E : Value → Shared → Prop) : Cx := { X with xe := E }
noncomputable abbrev Cx.nox (X : Cx) : Cx := X.wish fun _ _ => False
theorem Cx.Ok.wish {X : Cx} (ok : X.Ok) (E : Value → Shared → Prop) : (X.wish E).Ok :=
  ⟨ok.mod, ok.kind, ok.glob, ok.blt, ok.above, ok.inj, ok.has, ok.cab, ok.hd, ok.frames, ok.stk, ok.exf, ok.bs, ok.bsz, ok.noex, ok.exfs, ok.funs, ok.frf⟩
theorem Cx.Ok.unwish {X : Cx} {E : Value → Shared → Prop} (ok : (X.wish E).Ok) : X.Ok :=
  ⟨ok.mod, ok.kind, ok.glob, ok.blt, ok.above, ok.inj, ok.has, ok.cab, ok.hd, ok.frames, ok.stk, ok.exf, ok.bs, ok.bsz, ok.noex, ok.exfs, ok.funs, ok.frf⟩
section
variable {X : Cx} {pins : List (Addr × Obj)} {σ : St} {H : Hp} {s : Shared} {E : Value → Shared → Prop}
theorem Inv.wish (I : Inv X pins σ H s) (E : Value → Shared → Prop) : Inv (X.wish E) pins σ H s := ⟨I.ok.wish E, I.os, I.bare, I.base, I.loc, I.cell, I.free, I.freeC, I.pin, I.hok, I.len⟩
theorem Inv.unwish (I : Inv (X.wish E) pins σ H s) : Inv X pins σ H s := ⟨I.ok.unwish, I.os, I.bare, I.base, I.loc, I.cell, I.free, I.freeC, I.pin, I.hok, I.len⟩
theorem SP.unwish {D : Ends} {f : Flow} {s' : Shared} (h : SP (X.wish E) pins D f s') : SP X pins D f s' := by
  cases f with
  | next => obtain ⟨σ', H', I, q⟩ := h; exact ⟨σ', H', I.unwish, q⟩
  | brk => obtain ⟨σ', H', I, q⟩ := h; exact ⟨σ', H', I.unwish, q⟩
  | cont => obtain ⟨σ', H', I, q⟩ := h; exact ⟨σ', H', I.unwish, q⟩
  | ret u => obtain ⟨v, σ', H', I, r, q⟩ := h; exact ⟨v, σ', H', I.unwish, r, q⟩
theorem PE.nox {e : Expr} {t : TE} (h : PE X.nox e t) : PE X e t := fun pins s σ H Q I hw =>
  wpAny_mono (h pins s σ H Q (I.wish _) hw) (fun _ _ ⟨v, H', I', r, q⟩ => ⟨v, H', I'.unwish, r, q⟩) fun _ _ z => False.elim z
theorem PT.nox {e : Expr} {t : TT} (h : PT X.nox e t) : PT X e t := fun pins s σ H Q I hw =>
  wpAny_mono (h pins s σ H Q (I.wish _) hw) (fun _ _ ⟨H', I', q⟩ => ⟨H', I'.unwish, q⟩) fun _ _ z => False.elim z
theorem PSs.nox {st : List Stmt} {t : TS} (h : PSs X.nox st t) : PSs X st t := fun pins s σ H D I hw =>
  wpAny_mono (h pins s σ H D (I.wish _) hw) (fun _ _ q => q.unwish) fun _ _ z => False.elim z
end
section
variable {X : Cx} {st : Stmt} {zv : List Stmt} {t u : TS} {e : Expr} {te : TE} {pos : Pos}
noncomputable def kP : TS := fun D σ H => D.nx σ H
noncomputable def uA (t u : TS) : TS := fun D σ H => t { D with nx := u D } σ H
theorem zu : PSs X [] kP := fun _ _ σ H _ I h => wpAny_execs_nil ⟨σ, H, I, h⟩
theorem zc (h1 : PS X st t) (h2 : PSs X zv u) : PSs X (st :: zv) (uA t u) := by
  intro pins s σ H D I h
  refine wpAny_execs_cons (thn (h1 pins s σ H { D with nx := u D } I h) fun f s1 q => ?_)
  cases f with
  | next =>
    obtain ⟨σ', H', I', q⟩ := q
    exact h2 pins s1 σ' H' D I' q
  | ret v => exact q
  | brk => exact q
  | cont => exact q
theorem zg (h1 : PS X st t) : PSs X [st] t := by
  intro pins s σ H D I h
  refine wpAny_execs_cons (thn (h1 pins s σ H D I h) fun f s1 q => ?_)
  cases f with
  | next => exact wpAny_execs_nil q
  | ret v => exact q
  | brk => exact q
  | cont => exact q
theorem Inv.quiet {pins : List (Addr × Obj)} {σ : St} {H : Hp} {s : Shared} (I : Inv X pins σ H s) : interactive X.env = false := by simp [interactive, I.ok.kind]
noncomputable def vY (te : TE) : TS := fun D σ H => te σ H fun _ H1 => D.nx σ H1
theorem yZ (he : PE X e te) (hs : swapsWith e none pos.line X.env = pure false := by rfl) : PS X (.Expr e pos) (vY te) := by
  intro pins s σ H D I h
  exact wpAny_Expr_any (thn (he pins s σ H _ I h) fun v s1 ⟨x, H1, I1, r1, q1⟩ => ⟨σ, H1, I1, q1⟩) I.quiet hs
noncomputable def qX (te : TE) : TS := fun D σ H => te σ H D.rt
theorem zq (he : PE X e te) : PS X (.Return (some e) pos) (qX te) := by
  intro pins s σ H D I h
  exact wpAny_Return_some (thn (he pins s σ H _ I h) fun v s1 ⟨x, H1, I1, r1, q1⟩ => ⟨x, σ, H1, I1, r1, q1⟩)
noncomputable def kQ (c : TT) (t u : TS) : TS := fun D σ H => c σ H fun b H1 => if b = true then t D σ H1 else u D σ H1
theorem zL {c : Expr} {a b : List Stmt} {tc : TT} (hc : PT X c tc) (ha : PSs X a t) (hb : PSs X b u) : PS X (.If c a b pos) (kQ tc t u) := by
  intro pins s σ H D I h
  refine wpAny_If (thn (hc pins s σ H _ I h) fun d s1 ⟨H1, I1, q1⟩ => ?_)
  cases d with
  | true => exact ha pins s1 σ H1 D I1 q1
  | false => exact hb pins s1 σ H1 D I1 q1
end
noncomputable abbrev TG := V → St → Hp → (St → Hp → Prop) → Prop
noncomputable abbrev TGs := List V → St → Hp → (St → Hp → Prop) → Prop
noncomputable def PG (X : Cx) (target : Expr) (t : TG) : Prop :=
  ∀ (pins : List (Addr × Obj)) (s : Shared) (σ : St) (H : Hp) (v : V) (u : Value) (Q : St → Hp → Prop), Inv X pins σ H s → RelV v u → t v σ H Q →
    wpAny (model X.prog X.w) X.A (assign target X.env u) (fun _ s' => ∃ σ' H', Inv X pins σ' H' s' ∧ Q σ' H') X.xe s
noncomputable def PGs (X : Cx) (ts : List Expr) (t : TGs) : Prop :=
  ∀ (pins : List (Addr × Obj)) (s : Shared) (σ : St) (H : Hp) (vs : List V) (us : List Value) (Q : St → Hp → Prop), Inv X pins σ H s → Vals vs us → t vs σ H Q →
    wpAny (model X.prog X.w) X.A (assignInOrder ((assignEach ts X.env).map (·.2)) us) (fun _ s' => ∃ σ' H', Inv X pins σ' H' s' ∧ Q σ' H') X.xe s
section
variable {X : Cx} {pos : Pos}
noncomputable def xR (i : Nat) : TG := fun v σ H Q => Q (σ.set i (some v)) H
theorem zS {i : Nat} {x : Str} (hN : X.N.Nodup) (hi : X.N[i]? = some x) (hx : Loc X.env.scope x) (hf : X.fn x = true ∨ X.env.scope.names.lookup x = some .local := by first | exact .inl rfl | exact .inr rfl | assumption) : PG X (.Name x pos) (xR i) := by
  intro pins s σ H v u Q I r h
  exact wpAny_assign_Name (vA I hN hi hx r (fun s' I' => ⟨_, H, I', h⟩) hf)
noncomputable def UK : TGs := fun vs σ H Q => vs = [] ∧ Q σ H
noncomputable def XR (t : TG) (u : TGs) : TGs := fun vs σ H Q => ∃ v r, vs = v :: r ∧ t v σ H fun σ' H' => u r σ' H' Q
theorem uB : PGs X [] UK := by
  intro pins s σ H vs us Q I r h
  obtain ⟨e, h⟩ := h
  subst e
  cases r
  exact assignInOrder_nil ⟨σ, H, I, h⟩
theorem yE {e : Expr} {es : List Expr} {t : TG} {u : TGs} (h1 : PG X e t) (h2 : PGs X es u)
    (hs : (assignEach (e :: es) X.env).map (·.2) = assign e X.env :: (assignEach es X.env).map (·.2) := by rfl) : PGs X (e :: es) (XR t u) := by
  intro pins s σ H vs us Q I r h
  obtain ⟨v, vr, e1, h⟩ := h
  subst e1
  cases r with
  | cons r rr =>
    rw [hs]
    refine assignInOrder_cons (thn (h1 pins s σ H _ _ _ I r h) fun _ s1 ⟨σ1, H1, I1, q1⟩ => ?_)
    exact h2 pins s1 σ1 H1 _ _ Q I1 rr q1
noncomputable def YG (K : PySem.W.Frag) (n : Nat) (t : TGs) : TG := fun v σ H Q => ∃ a xs, v = .ref a ∧ SqT K H a xs ∧ xs.length = n ∧ t xs σ H Q
theorem UL {es : List Expr} {k : Nat} {t : TGs} {n : Nat} (hc : X.calm = true) (h : PGs X es t)
    (hn : (assignEach es X.env).length = n := by rfl) (hst : (assignEach es X.env).findIdx? (·.1) = none := by rfl) : PG X (.Tuple es k pos) (YG X.K n t) := by
  intro pins s σ H v u Q I r hw
  obtain ⟨a, xs, e1, hq, hl, hw⟩ := hw
  subst e1
  cases r
  obtain ⟨its, rv, ht, hz⟩ := I.tuple hq
  refine assign_Tuple_tuple (I.ok.hd hc) ht (by simp [hn, ← hl, rv.length]) hst fun h' hx => ?_
  have I1 : Inv X pins σ H { s with heap := h' } := I.kept (t' := s.toks) fun b o e => hx b o (Nat.ne_of_lt (Heap.lt_size e)) e
  exact h pins _ σ H xs _ Q I1 (by simpa using rv) hw
noncomputable def qY (te : TE) (g : TG) : TS := fun D σ H => te σ H fun x H1 => g x σ H1 D.nx
theorem zm {i : Nat} {x : Str} {e : Expr} {te : TE} {pos' : Pos} (hN : X.N.Nodup) (hi : X.N[i]? = some x) (hx : Loc X.env.scope x) (he : PE X e te) (hs : swapsWith e (some (.Name x pos')) pos.line X.env = pure false := by rfl) (hf : X.fn x = true ∨ X.env.scope.names.lookup x = some .local := by first | exact .inl rfl | exact .inr rfl | assumption) :
    PS X (.Assign [.Name x pos'] e pos) (qY te (xR i)) := by
  intro pins s σ H D I h
  refine wpAny_Assign_Name (thn (he pins s σ H _ I h) fun v s1 ⟨y, H1, I1, r1, q1⟩ => ?_) hs
  exact vA I1 hN hi hx r1 (fun s2 I2 => ⟨_, H1, I2, q1⟩) hf
end
section
variable {X : Cx} {pos : Pos}
end
structure It where
  go : Nat → Hp → Prop
  yld : Nat → Hp → V → Hp → Prop
  stop : Nat → Hp → Prop
noncomputable def FpOk (X : Cx) (pins : List (Addr × Obj)) (H : Hp) (b : Addr) : Prop :=
  H b = none ∧ b ≠ X.env.locals ∧ b ∉ X.fs ∧ (b ∈ X.ex ∨ X.s₀.heap.objs.size ≤ b) ∧ (∀ x c, X.env.cells.lookup x = some c → c ≠ b) ∧ ∀ p ∈ X.pn ++ pins, p.1 ≠ b
theorem Inv.fpOk {X : Cx} {pins : List (Addr × Obj)} {σ : St} {H H' : Hp} {s : Shared} {b : Addr} (I : Inv X pins σ H s) (hb : s.heap.objs.size ≤ b) (hn : H' b = none) : FpOk X pins H' b := by
  refine ⟨hn, Nat.ne_of_gt (Nat.lt_of_lt_of_le I.lt hb), I.nofs hb, .inr (Nat.le_trans I.sz hb), fun x c e z => ?_, fun p hp z => ?_⟩
  · obtain ⟨v, q⟩ := I.cell x c e
    exact absurd (Nat.lt_of_lt_of_le q.lt (by rw [z]; exact hb)) (Nat.lt_irrefl _)
  · exact absurd (Nat.lt_of_lt_of_le (Heap.lt_size (I.pin p hp).1) (by rw [z]; exact hb)) (Nat.lt_irrefl _)
structure Turn (P : Program) (w : World) (K : PySem.W.Frag) (tg : Expr) (J : It) (fp : List Addr) (it : Addr) (tn : Nat → Heap → Prop) : Prop where
  mem : it ∈ fp
  obj : ∀ i h, tn i h → ∀ b ∈ fp, ∃ o, h.get? b = some o ∧ ∀ v, o.data ≠ .cell v
  keep : ∀ i h h', tn i h → (∀ b ∈ fp, ∀ o, h.get? b = some o → h'.get? b = some o) → tn i h'
  item : ∀ (X : Cx), X.prog = P → X.w = w → X.K = K → X.calm = true → ∀ (i : Nat) (pins : List (Addr × Obj)) (s : Shared) (σ : St) (H : Hp) (E : Value → Shared → Prop), Inv X pins σ H s → (∀ b ∈ fp, FpOk X pins H b) → tn i s.heap → J.go i H →
    wpAny (model P w) X.A (pyNext (.ref it)) (fun r s1 => ∃ u, r = some u ∧
      wpAny (model P w) X.A (letOwnedTupleGo tg (.ref it) u) (fun _ s2 => ∃ x H', Inv X pins σ H' s2 ∧ RelV x u ∧ J.yld i H x H' ∧ tn (i + 1) s2.heap ∧ ∀ b ∈ fp, H' b = none) E s1) E s
  done : ∀ (X : Cx), X.prog = P → X.w = w → X.K = K → X.calm = true → ∀ (i : Nat) (pins : List (Addr × Obj)) (s : Shared) (σ : St) (H : Hp) (E : Value → Shared → Prop), Inv X pins σ H s → (∀ b ∈ fp, FpOk X pins H b) → tn i s.heap → J.stop i H →
    wpAny (model P w) X.A (pyNext (.ref it)) (fun r s1 => r = none ∧ Inv X pins σ H s1) E s
  self : ∀ (A : Around) (i : Nat) (s : Shared) (Q : Value → Shared → Prop) (E : Value → Shared → Prop), tn i s.heap → Q (.ref it) s → wpAny (model P w) A (pyIter (.ref it)) Q E s
noncomputable abbrev TI := St → Hp → (It → Hp → Prop) → Prop
noncomputable def PIE (X : Cx) (pins : List (Addr × Obj)) (σ : St) (tg : Expr) (R : It → Hp → Prop) (itv : Value) (s2 : Shared) : Prop :=
  ∃ (it : Addr) (fp : List Addr) (tn : Nat → Heap → Prop) (J : It) (H' : Hp), itv = .ref it ∧ Inv X pins σ H' s2 ∧ Turn X.prog X.w X.K tg J fp it tn ∧ tn 0 s2.heap ∧ (∀ b ∈ fp, FpOk X pins H' b) ∧ R J H'
noncomputable def PI (X : Cx) (tg iter : Expr) (wi : TI) : Prop :=
  ∀ (pins : List (Addr × Obj)) (s : Shared) (σ : St) (H : Hp) (R : It → Hp → Prop), Inv X pins σ H s → wi σ H R →
    wpAny (model X.prog X.w) X.A (eval iter X.env) (fun v s1 => wpAny (model X.prog X.w) X.A (pyIter v) (PIE X pins σ tg R) X.xe s1) X.xe s
theorem kR {M : Model} {A : Around} {E : Value → Shared → Prop} {s : Shared} {tg : Expr} {it : Addr} {u : Value} {o : Obj} {n : String} {vs : Array Value} {Q : Unit → Shared → Prop} (ho : s.heap.get? it = some o) (hc : o.cls = .type n) (hd : o.data = .fields vs)
    (hn : ["enumerate", "zip", "dict_itemiterator", "dict_reverseitemiterator", "odict_iterator", "itertools.zip_longest", "itertools.pairwise"].contains n = false) (hQ : Q () s) : wpAny M A (letOwnedTupleGo tg (.ref it) u) Q E s := by
  unfold letOwnedTupleGo
  cases tg <;> first
    | exact wpAny_pure hQ
    | (cases u <;> first
        | exact wpAny_pure hQ
        | (refine wpAny_bind (wpAny_load ho ?_)
           rw [hc, hd]
           show wpAny M A (if (["enumerate", "zip", "dict_itemiterator", "dict_reverseitemiterator", "odict_iterator", "itertools.zip_longest", "itertools.pairwise"].contains n && vs[0]? == some (rawInt _)) = true then _ else _) Q E s
           rw [if_neg (by intro h; rw [hn, Bool.false_and] at h; cases h)]
           exact wpAny_pure hQ))
noncomputable def Itl (K : PySem.W.Frag) (a : Addr) : It :=
  ⟨fun i H => ∃ xs x, SqL K H a xs ∧ xs[i]? = some x, fun i H x H' => H' = H ∧ ∀ xs, SqL K H a xs → xs[i]? = some x, fun i H => ∃ xs, SqL K H a xs ∧ xs.length ≤ i⟩
noncomputable def Itt (K : PySem.W.Frag) (a : Addr) : It :=
  ⟨fun i H => ∃ xs x, SqT K H a xs ∧ xs[i]? = some x, fun i H x H' => H' = H ∧ ∀ xs, SqT K H a xs → xs[i]? = some x, fun i H => ∃ xs, SqT K H a xs ∧ xs.length ≤ i⟩
noncomputable def Itr (lo : Int) (n : Nat) : It := ⟨fun i _ => i < n, fun i H x H' => H' = H ∧ x = .int (lo + i), fun i _ => n ≤ i⟩
theorem ZG {P : Program} {w : World} {K : PySem.W.Frag} {tg : Expr} (a it : Addr) : Turn P w K tg (Itl K a) [it] it (fun i h => h.IsListIter it a i) where
  mem := by simp
  obj := fun i h st b hb => by
    have e : b = it := by simpa using hb
    subst e
    obtain ⟨o, e, c, d⟩ := st
    exact ⟨o, e, fun v z => by rw [d] at z; cases z⟩
  keep := fun i h h' st k => st.at fun o e => k it (by simp) o e
  item := by
    intro X hP hw hK hc i pins s σ H E I hf st hg
    subst hP hw hK
    obtain ⟨xs, x, hq, hx⟩ := hg
    obtain ⟨its, rv, p, hz⟩ := I.list hq
    obtain ⟨u, hu, ru⟩ := rv.get hx
    obtain ⟨f0, f1, f2, f3, f4, f5⟩ := hf it (by simp)
    refine wpAny_pyNext_list_item st p.isList (x := u) (by simpa using hu) fun h' st' sb => ?_
    have I1 : Inv X pins σ H { s with heap := h' } := I.turned (t' := s.toks) (fun b o hb e => (sb.2 b hb).trans e) f0 f1 f3 f4 f5
    obtain ⟨o, e, c, d⟩ := id st'
    exact ⟨u, rfl, kR (s := { s with heap := h' }) e c d (by decide) ⟨x, H, I1, ru, ⟨rfl, fun ys hy => by rw [I.list_inj hy hq]; exact hx⟩, st', fun b hb => (hf b hb).1⟩⟩
  done := by
    intro X hP hw hK hc i pins s σ H E I hf st hg
    subst hP hw hK
    obtain ⟨xs, hq, hx⟩ := hg
    obtain ⟨its, rv, p, hz⟩ := I.list hq
    obtain ⟨f0, f1, f2, f3, f4, f5⟩ := hf it (by simp)
    have hl := rv.length
    exact wpAny_pyNext_list_end (I.ok.hd hc) st p.isList (by simp; omega) fun h' eb => ⟨rfl, I.turned (t' := s.toks) (fun b o hb e => eb b o hb e) f0 f1 f3 f4 f5⟩
  self := fun _ _ _ _ _ st h => wpAny_pyIter_listiter st h
theorem kS {P : Program} {w : World} {K : PySem.W.Frag} {tg : Expr} (a it : Addr) : Turn P w K tg (Itt K a) [it] it (fun i h => h.IsTupleIter it a i) where
  mem := by simp
  obj := fun i h st b hb => by
    have e : b = it := by simpa using hb
    subst e
    obtain ⟨o, e, c, d⟩ := st
    exact ⟨o, e, fun v z => by rw [d] at z; cases z⟩
  keep := fun i h h' st k => st.at fun o e => k it (by simp) o e
  item := by
    intro X hP hw hK hc i pins s σ H E I hf st hg
    subst hP hw hK
    obtain ⟨xs, x, hq, hx⟩ := hg
    obtain ⟨its, rv, p, hz⟩ := I.tuple hq
    obtain ⟨u, hu, ru⟩ := rv.get hx
    obtain ⟨f0, f1, f2, f3, f4, f5⟩ := hf it (by simp)
    refine wpAny_pyNext_tuple_item st (show s.heap.IsTuple a its.toArray from p) (x := u) (by simpa using hu) fun h' st' sb => ?_
    have I1 : Inv X pins σ H { s with heap := h' } := I.turned (t' := s.toks) (fun b o hb e => (sb.2 b hb).trans e) f0 f1 f3 f4 f5
    obtain ⟨o, e, c, d⟩ := id st'
    exact ⟨u, rfl, kR (s := { s with heap := h' }) e c d (by decide) ⟨x, H, I1, ru, ⟨rfl, fun ys hy => by rw [I.tuple_inj hy hq]; exact hx⟩, st', fun b hb => (hf b hb).1⟩⟩
  done := by
    intro X hP hw hK hc i pins s σ H E I hf st hg
    subst hP hw hK
    obtain ⟨xs, hq, hx⟩ := hg
    obtain ⟨its, rv, p, hz⟩ := I.tuple hq
    obtain ⟨f0, f1, f2, f3, f4, f5⟩ := hf it (by simp)
    have hl := rv.length
    exact wpAny_pyNext_tuple_end (I.ok.hd hc) st (show s.heap.IsTuple a its.toArray from p) (by simp; omega) fun h' eb => ⟨rfl, I.turned (t' := s.toks) (fun b o hb e => eb b o hb e) f0 f1 f3 f4 f5⟩
  self := fun _ _ _ _ _ st h => wpAny_pyIter_tupleiter st h
theorem kT {P : Program} {w : World} {K : PySem.W.Frag} {tg : Expr} (it : Addr) (lo : Int) (n : Nat) : Turn P w K tg (Itr lo n) [it] it (fun i h => IsRangeIter h it (lo + (i : Nat) * 1) ((n : Int) - (i : Nat)) 1) where
  mem := by simp
  obj := fun i h st b hb => by
    have e : b = it := by simpa using hb
    subst e
    exact ⟨_, st, fun v z => by
      have z' : Data.fields _ = Data.cell v := z
      cases z'⟩
  keep := fun i h h' st k => k it (by simp) _ st
  item := by
    intro X hP hw hK hc i pins s σ H E I hf st hg
    subst hP hw hK
    obtain ⟨f0, f1, f2, f3, f4, f5⟩ := hf it (by simp)
    have W := Walks.range (prog := X.prog) (w := X.w) (I.ok.hd hc) it lo 1 n
    refine W.item i s _ _ hg st fun v h' tk hv st' kk => ?_
    obtain ⟨t, rfl⟩ := hv
    have I1 : Inv X pins σ H { s with heap := h', toks := tk } := I.turned (fun b o hb e => kk b o (by simpa using hb) e) f0 f1 f3 f4 f5
    refine ⟨_, rfl, kR (s := { s with heap := h', toks := tk }) (n := "range_iterator") st' rfl rfl (by decide) ⟨.int (lo + i), H, I1, ⟨t, ?_⟩, ⟨rfl, rfl⟩, st', fun b hb => (hf b hb).1⟩⟩
    rw [Int.mul_one]
  done := by
    intro X hP hw hK hc i pins s σ H E I hf st hg
    subst hP hw hK
    obtain ⟨f0, f1, f2, f3, f4, f5⟩ := hf it (by simp)
    exact wpAny_pyNext_range_end (I.ok.hd hc) st (by have : n ≤ i := hg; omega) fun h' eb => ⟨rfl, I.turned (t' := s.toks) (fun b o hb e => eb b o hb e) f0 f1 f3 f4 f5⟩
  self := fun _ _ _ _ _ st h => wpAny_pyIter_rangeiter st h
end L2
namespace L2
open PySem PySem.Spec PyProof.Rows
section
variable {X : Cx} {tg : Expr}
noncomputable def kU (K : PySem.W.Frag) (tl : TE) : TI := fun σ H R => tl σ H fun x H1 => ∃ a, x = .ref a ∧ (∃ xs, SqL K H1 a xs) ∧ R (Itl K a) H1
noncomputable def YH (K : PySem.W.Frag) (tl : TE) : TI := fun σ H R => tl σ H fun x H1 => ∃ a, x = .ref a ∧ (∃ xs, SqT K H1 a xs) ∧ R (Itt K a) H1
theorem VC {l : Expr} {tl : TE} (hl : PE X l tl) : PI X tg l (kU X.K tl) := by
  intro pins s σ H R I h
  refine thn (hl pins s σ H _ I h) fun v s1 ⟨x, H1, I1, r1, q1⟩ => ?_
  obtain ⟨a, e, ⟨xs, hq⟩, q⟩ := q1
  subst e
  cases r1
  obtain ⟨its, rv, p, hz⟩ := I1.list hq
  refine wpAny_pyIter_list p.isList ?_
  refine ⟨s1.heap.objs.size, [s1.heap.objs.size], _, _, H1, rfl, I1.kept (t' := s1.toks) fun b o e => Heap.get?_push_of_some _ e, ZG a _, ⟨_, Heap.get?_push_size _ rfl, rfl, rfl⟩, fun b hb => ?_, q⟩
  have e : b = s1.heap.objs.size := by simpa using hb
  subst e
  exact I1.fpOk (Nat.le_refl _) (I1.hok.fresh (Nat.le_refl _))
theorem UM {l : Expr} {tl : TE} (hl : PE X l tl) : PI X tg l (YH X.K tl) := by
  intro pins s σ H R I h
  refine thn (hl pins s σ H _ I h) fun v s1 ⟨x, H1, I1, r1, q1⟩ => ?_
  obtain ⟨a, e, ⟨xs, hq⟩, q⟩ := q1
  subst e
  cases r1
  obtain ⟨its, rv, p, hz⟩ := I1.tuple hq
  refine wpAny_pyIter_tuple (show s1.heap.IsTuple a its.toArray from p) ?_
  refine ⟨s1.heap.objs.size, [s1.heap.objs.size], _, _, H1, rfl, I1.kept (t' := s1.toks) fun b o e => Heap.get?_push_of_some _ e, kS a _, ⟨_, Heap.get?_push_size _ rfl, rfl, rfl⟩, fun b hb => ?_, q⟩
  have e : b = s1.heap.objs.size := by simpa using hb
  subst e
  exact I1.fpOk (Nat.le_refl _) (I1.hok.fresh (Nat.le_refl _))
theorem YI {pins : List (Addr × Obj)} {σ : St} {H : Hp} {s : Shared} {R : It → Hp → Prop} {E : Value → Shared → Prop} {lo hi : Int} {t u v : Tok} {tk : Nat} (I : Inv X pins σ H s) (h1 : -(2 ^ 62) ≤ lo) (h2 : lo < 2 ^ 62) (h3 : -(2 ^ 62) ≤ hi) (h4 : hi < 2 ^ 62)
    (q : R (Itr lo (hi - lo).toNat) H) : wpAny (model X.prog X.w) X.A (pyIter (.ref s.heap.objs.size)) (PIE X pins σ tg R) E { s with heap := s.heap.push { cls := .type "range", data := .fields #[.int lo t, .int hi u, .int 1 v] }, toks := tk } := by
  refine wpAny_pyIter_range (IsRange.new ..) (small_one h1 h2 h3 h4) ?_
  have I1 : Inv X pins σ H { s with heap := s.heap.push { cls := .type "range", data := .fields #[.int lo t, .int hi u, .int 1 v] }, toks := tk } := I.kept fun b o e => Heap.get?_push_of_some _ e
  refine ⟨(s.heap.push { cls := .type "range", data := .fields #[.int lo t, .int hi u, .int 1 v] }).objs.size, [(s.heap.push { cls := .type "range", data := .fields #[.int lo t, .int hi u, .int 1 v] }).objs.size], _, _, H, rfl,
    I1.kept (t' := tk) fun b o e => Heap.get?_push_of_some _ e, kT _ lo (hi - lo).toNat, ?_, fun b hb => ?_, q⟩
  · have e1 : lo + ((0 : Nat) : Int) * 1 = lo := by simp
    have e2 : (((hi - lo).toNat : Nat) : Int) - ((0 : Nat) : Int) = Builtin.Range.rangeSize lo hi 1 := by rw [rangeSize_one]; split <;> omega
    show IsRangeIter _ _ (lo + ((0 : Nat) : Int) * 1) ((((hi - lo).toNat : Nat) : Int) - ((0 : Nat) : Int)) 1
    rw [e1, e2]
    exact Heap.get?_push_size _ rfl
  · have e : b = (s.heap.push { cls := .type "range", data := .fields #[.int lo t, .int hi u, .int 1 v] }).objs.size := by simpa using hb
    subst e
    exact I1.fpOk (Nat.le_refl _) (I1.hok.fresh (Nat.le_refl _))
noncomputable def XS (ta : TA) : TI := fun σ H R => ta σ H fun vs H1 => ∃ j : Int, vs = [.int j] ∧ -(2 ^ 62) ≤ j ∧ j < 2 ^ 62 ∧ R (Itr 0 j.toNat) H1
theorem xu {a : Expr} {ta : TA} {p pos : Pos} (hg : Gl X "range") (hm : X.mg "range" = none) (ha : PA X [a] ta) (hs : starEach [a] X.env = [(false, eval a X.env)] := by rfl) : PI X tg (.Call (.Name "range" p) [a] [] pos) (XS ta) := by
  intro pins s σ H R I h
  refine Call_ (vT I hg hm boot_range (PyProof.Rows.callWith_type1 (thn (ha pos pins s σ H _ I h) fun us s1 ⟨vs, H1, I1, r1, q1⟩ => ?_) hs rfl))
  obtain ⟨j, e, q1, q2, q⟩ := q1
  subst e
  cases r1 with
  | cons r rr =>
    cases rr
    obtain ⟨t, rfl⟩ := r
    exact call_range_1 (YI I1 (by omega) (by omega) q1 q2 (by simpa using q))
noncomputable def UN (wi : TI) (g : TG) (tb : TS) : TS := fun D σ H => wi σ H fun J H1 => ∃ W : Nat → Nat → St → Hp → Prop, (∃ m, W 0 m σ H1) ∧ ∀ i m σ H, W i m σ H →
  (J.stop i H ∧ D.nx σ H) ∨ (J.go i H ∧ ∃ N : St → Hp → Prop, (∀ σ' H', N σ' H' → ∃ m', m' < m ∧ W (i + 1) m' σ' H') ∧ ∀ x H', J.yld i H x H' → g x σ H' fun σ2 H2 => tb { D with nx := N, ct := N, bk := D.nx } σ2 H2)
noncomputable def x5 (fp : List Addr) (h : Heap) : List (Addr × Obj) := fp.filterMap fun b => (h.get? b).map fun o => (b, o)
theorem yV {fp : List Addr} {h : Heap} {b : Addr} {o : Obj} (hb : b ∈ fp) (e : h.get? b = some o) : (b, o) ∈ x5 fp h := List.mem_filterMap.mpr ⟨b, hb, by rw [e]; rfl⟩
theorem ZH {fp : List Addr} {h : Heap} {p : Addr × Obj} (hp : p ∈ x5 fp h) : p.1 ∈ fp ∧ h.get? p.1 = some p.2 := by
  obtain ⟨b, hb, e⟩ := List.mem_filterMap.mp hp
  cases q : h.get? b with
  | none => rw [q] at e; cases e
  | some o =>
    rw [q] at e
    have e' : (b, o) = p := Option.some.inj e
    subst e'
    exact ⟨hb, q⟩
theorem Inv.pinned {pins : List (Addr × Obj)} {σ : St} {H : Hp} {s : Shared} {fp : List Addr} (I : Inv X pins σ H s) (hf : ∀ b ∈ fp, FpOk X pins H b) (ho : ∀ b ∈ fp, ∃ o, s.heap.get? b = some o ∧ ∀ v, o.data ≠ .cell v) : Inv X (pins ++ x5 fp s.heap) σ H s :=
  I.pins_of fun p hp => (List.mem_append.mp hp).elim (fun z => I.pin p (List.mem_append_right _ z)) fun z => by
    obtain ⟨hb, e⟩ := ZH z
    obtain ⟨f0, f1, f2, _⟩ := hf p.1 hb
    obtain ⟨o, e', d⟩ := ho p.1 hb
    rw [e] at e'; cases e'
    exact ⟨e, f0, f1, f2, d⟩
theorem Inv.unpinned {pins pl : List (Addr × Obj)} {σ : St} {H : Hp} {s : Shared} (I : Inv X (pins ++ pl) σ H s) : Inv X pins σ H s := I.pins_of fun p hp => I.pin p (List.mem_append_right _ (List.mem_append_left _ hp))
theorem x6 {iter : Expr} {body : List Stmt} {wi : TI} {g : TG} {tb : TS} {pos : Pos} (hp : PassesOwn (model X.prog X.w) X.A X.env X.xe) (hc : X.calm = true) (hi : PI X tg iter wi) (hg : PG X tg g) (hb : PSs X body tb)
    (hs : ∀ x, foldedSetIterable iter X.env x = pure x := by intro _; rfl) : PS X (.For tg iter body [] pos) (UN wi g tb) := by
  intro pins s σ H D I h
  refine wpAny_For (thn (hi pins s σ H _ I h) fun v s1 h1 => thn h1 fun itv s2 h2 => ?_) hs
  obtain ⟨it, fp, tn, J, H2, e, I2, T, st2, f2, W, ⟨m0, w0⟩, turn⟩ := h2
  subst e
  have stat : ∀ {H' : Hp}, (∀ b ∈ fp, H' b = none) → ∀ b ∈ fp, FpOk X pins H' b := fun hn b hb => ⟨hn b hb, (f2 b hb).2⟩
  refine codeAny_forLoop_any (fun n s' => ∃ i σ' H', Inv X pins σ' H' s' ∧ tn i s'.heap ∧ (∀ b ∈ fp, H' b = none) ∧ W i n σ' H') ?_ m0 ⟨0, σ, H2, I2, st2, fun b hb => (f2 b hb).1, w0⟩
  rintro n s3 ⟨i, σ3, H3, I3, st3, fr3, w3⟩
  rcases turn i n σ3 H3 w3 with ⟨stop, qn⟩ | ⟨go, N, hN, step⟩
  · refine wpAny_passesOwn hp (thn (T.done X rfl rfl rfl hc i pins s3 σ3 H3 X.xe I3 (stat fr3) st3 stop) fun r s4 ⟨hr, I4⟩ => ?_)
    subst hr
    exact wpAny_execs_nil ⟨σ3, H3, I4, qn⟩
  · refine wpAny_passesOwn hp (thn (T.item X rfl rfl rfl hc i pins s3 σ3 H3 X.xe I3 (stat fr3) st3 go) fun r s4 ⟨u, hr, h4⟩ => ?_)
    subst hr
    refine wpAny_passesOwn hp (thn h4 fun _ s5 ⟨x, H5, I5, r5, y5, st5, fr5⟩ => ?_)
    have I5' := I5.pinned (stat fr5) (T.obj _ _ st5)
    refine wpAny_passesOwn hp (thn (hg _ s5 σ3 H5 x u _ I5' r5 (step x H5 y5)) fun _ s6 ⟨σ6, H6, I6, q6⟩ => ?_)
    refine wpAny_passesOwn hp (thn (hb _ s6 σ6 H6 _ I6 q6) fun f s7 q7 => ?_)
    have again : ∀ {σ7 : St} {H7 : Hp}, Inv X (pins ++ x5 fp s5.heap) σ7 H7 s7 → N σ7 H7 → ∃ m, m < n ∧ ∃ i σ' H', Inv X pins σ' H' s7 ∧ tn i s7.heap ∧ (∀ b ∈ fp, H' b = none) ∧ W i m σ' H' := fun {σ7 H7} I7 n7 => by
      obtain ⟨m', hm, w7⟩ := hN σ7 H7 n7
      refine ⟨m', hm, i + 1, σ7, H7, I7.unpinned, T.keep _ _ _ st5 fun b hb o e => (I7.pin (b, o) (List.mem_append_right _ (List.mem_append_right _ (yV hb e)))).1, fun b hb => ?_, w7⟩
      obtain ⟨o, e, d⟩ := T.obj _ _ st5 b hb
      exact (I7.pin (b, o) (List.mem_append_right _ (List.mem_append_right _ (yV hb e)))).2.1
    cases f with
    | next => obtain ⟨σ7, H7, I7, n7⟩ := q7; exact again I7 n7
    | cont => obtain ⟨σ7, H7, I7, n7⟩ := q7; exact again I7 n7
    | brk => obtain ⟨σ7, H7, I7, q7⟩ := q7; exact ⟨σ7, H7, I7.unpinned, q7⟩
    | ret v => obtain ⟨x7, σ7, H7, I7, r7, q7⟩ := q7; exact ⟨x7, σ7, H7, I7.unpinned, r7, q7⟩
end
theorem YJ {K : PySem.W.Frag} {a : Addr} {xs : List V} {g : TG} {tb : TS} {D : Ends} {σ : St} {H : Hp} (Pv : Nat → St → Hp → Prop) (h0 : Pv 0 σ H) (hl : ∀ i σ H, i ≤ xs.length → Pv i σ H → SqL K H a xs)
    (hs : ∀ i x σ H, xs[i]? = some x → Pv i σ H → g x σ H fun σ2 H2 => tb { D with nx := Pv (i + 1), ct := Pv (i + 1), bk := D.nx } σ2 H2) (hd : ∀ σ H, Pv xs.length σ H → D.nx σ H) :
    ∃ W : Nat → Nat → St → Hp → Prop, (∃ m, W 0 m σ H) ∧ ∀ i m σ H, W i m σ H →
      ((Itl K a).stop i H ∧ D.nx σ H) ∨ ((Itl K a).go i H ∧ ∃ N : St → Hp → Prop, (∀ σ' H', N σ' H' → ∃ m', m' < m ∧ W (i + 1) m' σ' H') ∧ ∀ x H', (Itl K a).yld i H x H' → g x σ H' fun σ2 H2 => tb { D with nx := N, ct := N, bk := D.nx } σ2 H2) := by
  refine ⟨fun i m σ H => m = xs.length - i ∧ i ≤ xs.length ∧ Pv i σ H, ⟨xs.length, by simp, Nat.zero_le _, h0⟩, ?_⟩
  rintro i m σ H ⟨rfl, hi, p⟩
  have q := hl i σ H hi p
  by_cases hlt : i < xs.length
  · refine .inr ⟨⟨xs, xs[i], q, by simp [hlt]⟩, Pv (i + 1), fun σ' H' p' => ⟨xs.length - (i + 1), by omega, rfl, hlt, p'⟩, fun x H' y => ?_⟩
    obtain ⟨e, y⟩ := y
    subst e
    exact hs i x σ _ (y xs q) p
  · have e : i = xs.length := by omega
    subst e
    exact .inl ⟨⟨xs, q, Nat.le_refl _⟩, hd σ H p⟩
theorem VD {K : PySem.W.Frag} {a : Addr} {xs : List V} {g : TG} {tb : TS} {D : Ends} {σ : St} {H : Hp} (Pv : Nat → St → Hp → Prop) (h0 : Pv 0 σ H) (hl : ∀ i σ H, i ≤ xs.length → Pv i σ H → SqT K H a xs)
    (hs : ∀ i x σ H, xs[i]? = some x → Pv i σ H → g x σ H fun σ2 H2 => tb { D with nx := Pv (i + 1), ct := Pv (i + 1), bk := D.nx } σ2 H2) (hd : ∀ σ H, Pv xs.length σ H → D.nx σ H) :
    ∃ W : Nat → Nat → St → Hp → Prop, (∃ m, W 0 m σ H) ∧ ∀ i m σ H, W i m σ H →
      ((Itt K a).stop i H ∧ D.nx σ H) ∨ ((Itt K a).go i H ∧ ∃ N : St → Hp → Prop, (∀ σ' H', N σ' H' → ∃ m', m' < m ∧ W (i + 1) m' σ' H') ∧ ∀ x H', (Itt K a).yld i H x H' → g x σ H' fun σ2 H2 => tb { D with nx := N, ct := N, bk := D.nx } σ2 H2) := by
  refine ⟨fun i m σ H => m = xs.length - i ∧ i ≤ xs.length ∧ Pv i σ H, ⟨xs.length, by simp, Nat.zero_le _, h0⟩, ?_⟩
  rintro i m σ H ⟨rfl, hi, p⟩
  have q := hl i σ H hi p
  by_cases hlt : i < xs.length
  · refine .inr ⟨⟨xs, xs[i], q, by simp [hlt]⟩, Pv (i + 1), fun σ' H' p' => ⟨xs.length - (i + 1), by omega, rfl, hlt, p'⟩, fun x H' y => ?_⟩
    obtain ⟨e, y⟩ := y
    subst e
    exact hs i x σ _ (y xs q) p
  · have e : i = xs.length := by omega
    subst e
    exact .inl ⟨⟨xs, q, Nat.le_refl _⟩, hd σ H p⟩
theorem ZI {lo : Int} {n : Nat} {g : TG} {tb : TS} {D : Ends} {σ : St} {H : Hp} (Pv : Nat → St → Hp → Prop) (h0 : Pv 0 σ H)
    (hs : ∀ i σ H, i < n → Pv i σ H → g (.int (lo + i)) σ H fun σ2 H2 => tb { D with nx := Pv (i + 1), ct := Pv (i + 1), bk := D.nx } σ2 H2) (hd : ∀ σ H, Pv n σ H → D.nx σ H) :
    ∃ W : Nat → Nat → St → Hp → Prop, (∃ m, W 0 m σ H) ∧ ∀ i m σ H, W i m σ H →
      ((Itr lo n).stop i H ∧ D.nx σ H) ∨ ((Itr lo n).go i H ∧ ∃ N : St → Hp → Prop, (∀ σ' H', N σ' H' → ∃ m', m' < m ∧ W (i + 1) m' σ' H') ∧ ∀ x H', (Itr lo n).yld i H x H' → g x σ H' fun σ2 H2 => tb { D with nx := N, ct := N, bk := D.nx } σ2 H2) := by
  refine ⟨fun i m σ H => m = n - i ∧ i ≤ n ∧ Pv i σ H, ⟨n, by simp, Nat.zero_le _, h0⟩, ?_⟩
  rintro i m σ H ⟨rfl, hi, p⟩
  by_cases hlt : i < n
  · refine .inr ⟨hlt, Pv (i + 1), fun σ' H' p' => ⟨n - (i + 1), by omega, rfl, hlt, p'⟩, fun x H' y => ?_⟩
    obtain ⟨e, y⟩ := y
    subst e y
    exact hs i σ _ hlt p
  · have e : i = n := by omega
    subst e
    exact .inl ⟨Nat.le_refl _, hd σ H p⟩
end L2
namespace L2
open PySem PySem.Spec PyProof.Rows
noncomputable abbrev R2 := V → V → Hp → VK → Prop
noncomputable def OpR (X : Cx) (f : Value → Value → Sem Value) (r : R2) : Prop :=
  ∀ (pins : List (Addr × Obj)) (s : Shared) (σ : St) (H : Hp) (x y : V) (v u : Value) (Q : VK), Inv X pins σ H s → RelV x v → RelV y u → r x y H Q →
    wpAny (model X.prog X.w) X.A (f v u) (EP X pins σ Q) X.xe s
noncomputable def zN (X : Cx) (f : Value) (r : List V → Hp → VK → Prop) : Prop :=
  ∀ (pins : List (Addr × Obj)) (s : Shared) (σ : St) (H : Hp) (xs : List V) (us : List Value) (Q : VK), Inv X pins σ H s → Vals xs us → r xs H Q →
    wpAny (model X.prog X.w) X.A (call f us) (EP X pins σ Q) X.xe s
noncomputable def Jv (X : Cx) (r : V → Hp → (Bool → Hp → Prop) → Prop) : Prop :=
  ∀ (pins : List (Addr × Obj)) (s : Shared) (σ : St) (H : Hp) (x : V) (v : Value) (Q : Bool → Hp → Prop), Inv X pins σ H s → RelV x v → r x H Q →
    wpAny (model X.prog X.w) X.A (truthy v) (TP X pins σ Q) X.xe s
noncomputable def tOp (r : R2) (ta tb : TE) : TE := fun σ H Q => ta σ H fun x H1 => tb σ H1 fun y H2 => r x y H2 Q
noncomputable def tUn (r : V → Hp → VK → Prop) (ta : TE) : TE := fun σ H Q => ta σ H fun x H1 => r x H1 Q
noncomputable def rI (C : Int → Int → Prop) (g : Int → Int → V) : R2 := fun x y H Q => ∃ i j, x = .int i ∧ y = .int j ∧ C i j ∧ Q (g i j) H
noncomputable def rI0 (g : Int → Int → V) : R2 := fun x y H Q => ∃ i j, x = .int i ∧ y = .int j ∧ Q (g i j) H
noncomputable def rU (g : Int → V) : V → Hp → VK → Prop := fun x H Q => ∃ i, x = .int i ∧ Q (g i) H
section
variable {X : Cx} {a b c : Expr} {ta tb tc : TE} {pos : Pos}
theorem YL (ha : PE X a ta) (hb : PE X b tb) {pins : List (Addr × Obj)} {s : Shared} {σ : St} {H : Hp} {R : V → V → Hp → Prop} (I : Inv X pins σ H s)
    (h : ta σ H fun x H1 => tb σ H1 fun y H2 => R x y H2) {Q : Value → Shared → Prop} {f : Value → Value → Sem Value}
    (hf : ∀ v u s2 x y H2, Inv X pins σ H2 s2 → RelV x v → RelV y u → R x y H2 → wpAny (model X.prog X.w) X.A (f v u) Q X.xe s2) :
    wpAny (model X.prog X.w) X.A (eval a X.env) (fun v s₁ => wpAny (model X.prog X.w) X.A (eval b X.env) (fun u s₂ => wpAny (model X.prog X.w) X.A (f v u) Q X.xe s₂) X.xe s₁) X.xe s := by
  refine thn (ha pins s σ H _ I h) fun v s1 ⟨x, H1, I1, r1, q1⟩ => ?_
  refine thn (hb pins s1 σ H1 _ I1 q1) fun u s2 ⟨y, H2, I2, r2, q2⟩ => ?_
  exact hf v u s2 x y H2 I2 r1 r2 q2
theorem zd {op : Operator} {r : R2} (ho : OpR X (binaryOp op) r) (ha : PE X a ta) (hb : PE X b tb) : PE X (.BinOp a op b pos) (tOp r ta tb) := by
  intro pins s σ H Q I h
  exact wpAny_BinOp (YL ha hb I h fun v u s2 x y H2 I2 rx ry q => ho pins s2 σ H2 x y v u Q I2 rx ry q)
theorem opI {f : Value → Value → Sem Value} {C : Int → Int → Prop} {g : Int → Int → Int}
    (rule : ∀ (i j : Int) (t u : Tok) (s : Shared) (Q : Value → Shared → Prop) (E : Value → Shared → Prop), C i j → Q (.int (g i j) s.toks) { s with toks := s.toks + 1 } → wpAny (model X.prog X.w) X.A (f (.int i t) (.int j u)) Q E s) :
    OpR X f (rI C fun i j => .int (g i j)) := by
  intro pins s σ H x y v u Q I rx ry h
  obtain ⟨i, j, rfl, rfl, hc, q⟩ := h
  obtain ⟨t, rfl⟩ := rx
  obtain ⟨t', rfl⟩ := ry
  exact rule i j t t' s _ _ hc ⟨.int (g i j), H, I.tok _, ⟨_, rfl⟩, q⟩
theorem YM {f : Value → Value → Sem Value} {g : Int → Int → Int}
    (rule : ∀ (i j : Int) (t u : Tok) (s : Shared) (Q : Value → Shared → Prop) (E : Value → Shared → Prop), Q (.int (g i j) s.toks) { s with toks := s.toks + 1 } → wpAny (model X.prog X.w) X.A (f (.int i t) (.int j u)) Q E s) :
    OpR X f (rI0 fun i j => .int (g i j)) := by
  intro pins s σ H x y v u Q I rx ry h
  obtain ⟨i, j, rfl, rfl, q⟩ := h
  obtain ⟨t, rfl⟩ := rx
  obtain ⟨t', rfl⟩ := ry
  exact rule i j t t' s _ _ ⟨.int (g i j), H, I.tok _, ⟨_, rfl⟩, q⟩
theorem UO {f : Value → Value → Sem Value} {g : Int → Int → Bool}
    (rule : ∀ (i j : Int) (t u : Tok) (s : Shared) (Q : Value → Shared → Prop) (E : Value → Shared → Prop), Q (.bool (g i j)) s → wpAny (model X.prog X.w) X.A (f (.int i t) (.int j u)) Q E s) :
    OpR X f (rI0 fun i j => .bl (g i j)) := by
  intro pins s σ H x y v u Q I rx ry h
  obtain ⟨i, j, rfl, rfl, q⟩ := h
  obtain ⟨t, rfl⟩ := rx
  obtain ⟨t', rfl⟩ := ry
  exact rule i j t t' s _ _ ⟨.bl (g i j), H, I, rfl, q⟩
noncomputable def Jw (i j : Int) : Prop := 0 < j ∧ j < 1073741824
noncomputable def uC (i j : Int) : Prop := (-(2 ^ 64) < i ∧ i < 2 ^ 64) ∨ (-(2 ^ 64) < j ∧ j < 2 ^ 64)
theorem uC.ok {i j : Int} (h : uC i j) : IntMulOk i j := by
  rcases h with ⟨h1, h2⟩ | ⟨h1, h2⟩
  · exact .of_left (intBits_le_64 h1 h2)
  · exact .of_right (intBits_le_64 h1 h2)
theorem kW (k : Nat) : (0 : Int) ≤ 2 ^ k := by
  rw [two_pow_cast]
  exact Int.natCast_nonneg _
theorem zD : OpR X (binaryOp .Add) (rI0 fun i j => .int (i + j)) := YM fun _ _ _ _ _ _ _ q => add_int q
theorem z7 : OpR X (binaryOp .FloorDiv) (rI Jw fun i j => .int (i / j)) := opI fun i j _ _ _ _ _ hc q => by
  have h1 : (0 : Int) < j := hc.1
  have h2 : j < 1073741824 := hc.2
  exact floordiv_int (by omega) (by rw [Int.fdiv_eq_ediv_of_nonneg i (by omega)]; exact q) (.inl (PyProof.noPylong_small (by omega)))
theorem zx : OpR X (binaryOp .Mod) (rI (fun _ j => 0 < j) fun i j => .int (i % j)) := opI fun i j _ _ _ _ _ hc q => by
  have h1 : (0 : Int) < j := hc
  exact mod_int' (by omega) (by rw [Int.fmod_eq_emod_of_nonneg i (by omega)]; exact q)
theorem UP : OpR X (binaryOp .RShift) (rI (fun _ j => 0 ≤ j) fun i j => .int (i / 2 ^ j.toNat)) := opI fun i j _ _ _ _ _ hc q =>
  rshift_int hc (by rw [Int.fdiv_eq_ediv_of_nonneg i (kW _)]; exact q)
theorem qZ : OpR X (binaryOp .BitAnd) (rI0 fun i j => .int (Builtin.bitAnd i j)) := YM fun _ _ _ _ _ _ _ q => and_int q
theorem XT : OpR X (binaryOp .BitOr) (rI0 fun i j => .int (Builtin.bitOr i j)) := YM fun _ _ _ _ _ _ _ q => or_int q
end
noncomputable def x8 : V → V → Bool
  | .non, .non => true | .non, .int _ => true | .int _, .non => true | .non, .bl _ => true | .bl _, .non => true | .non, .str _ => true | .str _, .non => true
  | .int _, .int _ => true | .bl _, .bl _ => true | .str _, .str _ => true | .byt _, .byt _ => true
  | .int _, .str _ => true | .str _, .int _ => true | .bl _, .str _ => true | .str _, .bl _ => true
  | _, _ => false
noncomputable def rEq : R2 := fun x y H Q => x8 x y = true ∧ Q (.bl (decide (x = y))) H
noncomputable def rNe : R2 := fun x y H Q => x8 x y = true ∧ Q (.bl (!decide (x = y))) H
theorem ka {i j : Int} : decide (V.int i = V.int j) = (i == j) := by
  rw [Bool.eq_iff_iff]
  simp
theorem ZJ {i j : Bool} : decide (V.bl i = V.bl j) = (i == j) := by
  rw [Bool.eq_iff_iff]
  simp
theorem kb {i j : Str} : decide (V.str i = V.str j) = (i == j) := by
  rw [Bool.eq_iff_iff]
  simp
theorem kc {i j : Array UInt8} : decide (V.byt i = V.byt j) = (i.toList == j.toList) := by
  rw [Bool.eq_iff_iff]
  cases i
  cases j
  simp
section
variable {X : Cx} {a b c : Expr} {ta tb tc : TE} {pos : Pos}
theorem zo {pins : List (Addr × Obj)} {σ : St} {H : Hp} {s : Shared} {Q : VK} {k k' : Bool} (I : Inv X pins σ H s) (q : Q (.bl k) H) (e : k = k') : EP X pins σ Q (.bool k') s := by
  subst e
  exact ⟨.bl k, H, I, rfl, q⟩
theorem yL : OpR X (compareOp .Eq) rEq := by
  intro pins s σ H x y v u Q I rx ry h
  obtain ⟨hs, q⟩ := h
  cases x with
  | non =>
    cases rx
    cases y with
    | non => cases ry; exact PySem.EqNone.eq_none_none (zo I q (by simp))
    | bl j => cases ry; exact PySem.EqNone.eq_none_bool (zo I q (by simp))
    | int j => obtain ⟨t', rfl⟩ := ry; exact PySem.EqNone.eq_none_int (zo I q (by simp))
    | str j => obtain ⟨t', rfl⟩ := ry; exact PySem.EqNone.eq_none_str (zo I q (by simp))
    | _ => exact absurd (show false = true from hs) Bool.false_ne_true
  | bl i =>
    cases rx
    cases y with
    | non => cases ry; exact PySem.EqNone.eq_bool_none (zo I q (by simp))
    | bl j => cases ry; exact eq_bool (zo I q ZJ)
    | str j => obtain ⟨t', rfl⟩ := ry; exact PySem.EqMixed.eq_bool_str (zo I q (by simp))
    | _ => exact absurd (show false = true from hs) Bool.false_ne_true
  | int i =>
    obtain ⟨t, rfl⟩ := rx
    cases y with
    | non => cases ry; exact PySem.EqNone.eq_int_none (zo I q (by simp))
    | int j => obtain ⟨t', rfl⟩ := ry; exact eq_int (zo I q ka)
    | str j => obtain ⟨t', rfl⟩ := ry; exact PySem.EqMixed.eq_int_str (zo I q (by simp))
    | _ => exact absurd (show false = true from hs) Bool.false_ne_true
  | str i =>
    obtain ⟨t, rfl⟩ := rx
    cases y with
    | non => cases ry; exact PySem.EqNone.eq_str_none (zo I q (by simp))
    | bl j => cases ry; exact PySem.EqMixed.eq_str_bool (zo I q (by simp))
    | int j => obtain ⟨t', rfl⟩ := ry; exact PySem.EqMixed.eq_str_int (zo I q (by simp))
    | str j => obtain ⟨t', rfl⟩ := ry; exact eq_str (zo I q kb)
    | _ => exact absurd (show false = true from hs) Bool.false_ne_true
  | byt i =>
    obtain ⟨t, rfl⟩ := rx
    cases y with
    | byt j => obtain ⟨t', rfl⟩ := ry; exact PySem.W.eq_bytes (zo I q kc)
    | _ => exact absurd (show false = true from hs) Bool.false_ne_true
  | _ => cases y <;> exact absurd (show false = true from hs) Bool.false_ne_true
theorem kX : OpR X (compareOp .NotEq) rNe := by
  intro pins s σ H x y v u Q I rx ry h
  obtain ⟨hs, q⟩ := h
  cases x with
  | non =>
    cases rx
    cases y with
    | non => cases ry; exact PySem.EqNone.ne_none_none (zo I q (by simp))
    | bl j => cases ry; exact PySem.EqNone.ne_none_bool (zo I q (by simp))
    | int j => obtain ⟨t', rfl⟩ := ry; exact PySem.EqNone.ne_none_int (zo I q (by simp))
    | str j => obtain ⟨t', rfl⟩ := ry; exact PySem.EqNone.ne_none_str (zo I q (by simp))
    | _ => exact absurd (show false = true from hs) Bool.false_ne_true
  | bl i =>
    cases rx
    cases y with
    | non => cases ry; exact PySem.EqNone.ne_bool_none (zo I q (by simp))
    | bl j => cases ry; exact ne_bool (zo I q (congrArg not ZJ))
    | str j => obtain ⟨t', rfl⟩ := ry; exact PySem.EqMixed.ne_bool_str (zo I q (by simp))
    | _ => exact absurd (show false = true from hs) Bool.false_ne_true
  | int i =>
    obtain ⟨t, rfl⟩ := rx
    cases y with
    | non => cases ry; exact PySem.EqNone.ne_int_none (zo I q (by simp))
    | int j => obtain ⟨t', rfl⟩ := ry; exact ne_int (zo I q (congrArg not ka))
    | str j => obtain ⟨t', rfl⟩ := ry; exact PySem.EqMixed.ne_int_str (zo I q (by simp))
    | _ => exact absurd (show false = true from hs) Bool.false_ne_true
  | str i =>
    obtain ⟨t, rfl⟩ := rx
    cases y with
    | non => cases ry; exact PySem.EqNone.ne_str_none (zo I q (by simp))
    | bl j => cases ry; exact PySem.EqMixed.ne_str_bool (zo I q (by simp))
    | int j => obtain ⟨t', rfl⟩ := ry; exact PySem.EqMixed.ne_str_int (zo I q (by simp))
    | str j => obtain ⟨t', rfl⟩ := ry; exact ne_str (zo I q (congrArg not kb))
    | _ => exact absurd (show false = true from hs) Bool.false_ne_true
  | byt i =>
    obtain ⟨t, rfl⟩ := rx
    cases y with
    | byt j => obtain ⟨t', rfl⟩ := ry; exact PySem.W.ne_bytes (zo I q (congrArg not kc))
    | _ => exact absurd (show false = true from hs) Bool.false_ne_true
  | _ => cases y <;> exact absurd (show false = true from hs) Bool.false_ne_true
theorem Q3 : OpR X (compareOp .Lt) (rI0 fun i j => .bl (decide (i < j))) := UO fun _ _ _ _ _ _ _ q => lt_int q
theorem qK : OpR X (compareOp .Gt) (rI0 fun i j => .bl (decide (j < i))) := UO fun _ _ _ _ _ _ _ q => gt_int q
theorem UQ : OpR X (compareOp .Is) (fun x y H Q => y = .non ∧ Q (.bl (decide (x = .non))) H) := by
  intro pins s σ H x y v u Q I rx ry h
  obtain ⟨rfl, q⟩ := h
  cases ry
  refine is_none_gen (zo I q ?_)
  cases x <;> first
    | (cases rx; rfl)
    | (obtain ⟨t, rfl⟩ := rx; rfl)
theorem OpR.or {f : Value → Value → Sem Value} {r r' : R2} (h : OpR X f r) (h' : OpR X f r') : OpR X f (fun x y H Q => r x y H Q ∨ r' x y H Q) := by
  intro pins s σ H x y v u Q I rx ry q
  rcases q with q | q
  · exact h pins s σ H x y v u Q I rx ry q
  · exact h' pins s σ H x y v u Q I rx ry q
theorem zt (b : Expr) {op : CmpOp} (h : op ≠ .In := by decide) (h2 : op ≠ .NotIn := by decide) : behindInMarks op b = false := by
  have e1 : (op == CmpOp.In) = false := by cases op <;> first | rfl | exact absurd rfl h
  have e2 : (op == CmpOp.NotIn) = false := by cases op <;> first | rfl | exact absurd rfl h2
  cases b <;> simp [behindInMarks, e1, e2]
theorem xG {op : CmpOp} {r : R2} (ho : OpR X (compareOp op) r) (ha : PE X a ta) (hb : PE X b tb) (hm : behindInMarks op b = false) : PE X (.Compare a [op] [b] pos) (tOp r ta tb) := by
  intro pins s σ H Q I h
  exact wpAny_Compare1 (YL ha hb I h fun v u s2 x y H2 I2 rx ry q => ho pins s2 σ H2 x y v u Q I2 rx ry q) hm
noncomputable def kY (t : TE) : TT := fun σ H Q => t σ H fun x H' => ∃ k, x = .bl k ∧ Q k H'
theorem zr {op : CmpOp} {r : R2} (ho : OpR X (compareOp op) r) (ha : PE X a ta) (hb : PE X b tb) (hm : behindInMarks op b = false) : PT X (.Compare a [op] [b] pos) (kY (tOp r ta tb)) := by
  intro pins s σ H Q I h
  refine wpAny_isTrue_Compare1 (thn (ha pins s σ H _ I h) fun v s1 ⟨x, H1, I1, r1, q1⟩ => thn (hb pins s1 σ H1 _ I1 q1) fun u s2 ⟨y, H2, I2, r2, q2⟩ =>
    thn (ho pins s2 σ H2 x y v u _ I2 r1 r2 q2) fun c s3 ⟨z, H3, I3, r3, k, e, q3⟩ => ?_) hm
  subst e
  cases r3
  exact wpAny_truthy_bool ⟨H3, I3, q3⟩
noncomputable def UR (r r' : R2) (ta tb tc : TE) : TE := fun σ H Q => ta σ H fun x H1 => tb σ H1 fun y H2 => r x y H2 fun z H3 => ∃ k, z = .bl k ∧
  (if k = true then tc σ H3 fun w' H4 => r' y w' H4 Q else Q (.bl false) H3)
noncomputable def ja (K : PySem.W.Frag) (x : V) (H : Hp) (k : Bool) : Prop :=
  match x with
  | .non => k = false
  | .bl b => k = b
  | .int i => k = (i != 0)
  | .str y => y.length ≤ sizeLine ∧ k = ((y.length : Int) != 0)
  | .byt y => y.size ≤ sizeLine ∧ k = ((y.size : Int) != 0)
  | .ref p => (∃ xs, SqL K H p xs ∧ k = !xs.isEmpty) ∨ (∃ xs, SqT K H p xs ∧ k = !xs.isEmpty) ∨ ∃ kvs, H p = some (.dK kvs) ∧ k = !kvs.isEmpty
  | _ => False
theorem kZ {κ : Type} {kvs : List (κ × V)} {vs : List (κ × Value)} (r : KV kvs vs) : (!vs.isEmpty) = !kvs.isEmpty := by
  cases r <;> rfl
theorem vZ {xs : List V} {its : List Value} (r : Vals xs its) : (!its.toArray.isEmpty) = !xs.isEmpty := by
  cases r <;> simp
theorem x9 : (sizeLine : Nat) < 2 ^ 63 := by rw [sizeLine_eq]; decide
theorem US : Jv X (fun x H Q => ∃ k, ja X.K x H k ∧ Q k H) := by
  intro pins s σ H x v Q I rx h
  obtain ⟨k, e, q⟩ := h
  have hl := x9
  have hs : sizeLine = 16777216 := sizeLine_eq
  cases x with
  | non =>
    cases rx
    have e' : k = false := e
    subst e'
    exact truthy_none ⟨H, I, q⟩
  | bl b =>
    cases rx
    have e' : k = b := e
    subst e'
    exact wpAny_truthy_bool ⟨H, I, q⟩
  | int i =>
    obtain ⟨t, rfl⟩ := rx
    have e' : k = (i != 0) := e
    subst e'
    exact PySem.P.truthy_int ⟨H, I, q⟩
  | str y =>
    obtain ⟨t, rfl⟩ := rx
    obtain ⟨hy, e'⟩ : y.length ≤ sizeLine ∧ k = ((y.length : Int) != 0) := e
    subst e'
    exact PySem.P.truthy_str (by omega) ⟨H, I.tok _, q⟩
  | byt y =>
    obtain ⟨t, rfl⟩ := rx
    obtain ⟨hy, e'⟩ : y.size ≤ sizeLine ∧ k = ((y.size : Int) != 0) := e
    subst e'
    exact PySem.W.truthy_bytes (by omega) ⟨H, I.tok _, q⟩
  | ref p =>
    cases rx
    have e' : (∃ xs, SqL X.K H p xs ∧ k = !xs.isEmpty) ∨ (∃ xs, SqT X.K H p xs ∧ k = !xs.isEmpty) ∨ ∃ kvs, H p = some (.dK kvs) ∧ k = !kvs.isEmpty := e
    rcases e' with ⟨xs, hx, e'⟩ | ⟨xs, hx, e'⟩ | ⟨kvs, hx, e'⟩
    · subst e'
      obtain ⟨its, r, pl, hz⟩ := I.list hx
      have hlen := r.length
      exact wpAny_truthy_list pl.isList (by simp only [List.size_toArray]; omega) ⟨H, I.tok _, by rw [vZ r]; exact q⟩
    · subst e'
      obtain ⟨its, r, pl, hz⟩ := I.tuple hx
      have hlen := r.length
      exact truthy_tuple pl (by simp only [List.size_toArray]; omega) ⟨H, I.tok _, by rw [vZ r]; exact q⟩
    · subst e'
      obtain ⟨hz, hS, vs, r, m⟩ : kvs.length ≤ sizeLine ∧ (p == sysModules) = false ∧ ∃ vs, KV kvs vs ∧ s.heap.DictOf (uy X.prog X.w) p vs := I.hok p _ hx
      have hlen : kvs.length = vs.length := Paired.length r
      exact wpAny_truthy_dict hS m (by omega) ⟨H, I.tok _, by rw [kZ r]; exact q⟩
  | _ => exact (show False from e).elim
theorem YN (ha : PE X a ta) (he : ∀ whole, isTrue a X.env whole = (do let v ← whole; standAt a.pos; holding [v] (truthy v))) :
    PT X a (fun σ H Q => ta σ H fun x H' => ∃ k, ja X.K x H' k ∧ Q k H') := by
  intro pins s σ H Q I h
  exact isTrue_plain (thn (ha pins s σ H _ I h) fun v s1 ⟨x, H1, I1, r1, q1⟩ => US pins s1 σ H1 x v Q I1 r1 q1) (he _)
theorem zX : OpR X (binaryOp .Add) (fun x y H Q => ∃ i j, x = .str i ∧ y = .str j ∧ i.length + j.length ≤ sizeLine ∧ Q (.str (i ++ j)) H) := by
  intro pins s σ H x y v u Q I rx ry h
  obtain ⟨i, j, rfl, rfl, hz, q⟩ := h
  obtain ⟨t, rfl⟩ := rx
  obtain ⟨t', rfl⟩ := ry
  exact add_str (fun t' tk => ⟨.str (i ++ j), H, I.tok _, ⟨_, rfl⟩, q⟩) hz
theorem yW {x : V} {us : List Value} (r : Vals [x] us) : ∃ u, us = [u] ∧ RelV x u := by
  cases r with
  | cons r1 r2 => cases r2; exact ⟨_, rfl, r1⟩
theorem Q4 {x y : V} {us : List Value} (r : Vals [x, y] us) : ∃ u w', us = [u, w'] ∧ RelV x u ∧ RelV y w' := by
  cases r with
  | cons r1 r2 =>
    cases r2 with
    | cons r3 r4 => cases r4; exact ⟨_, _, rfl, r1, r3⟩
theorem ZK (hc : X.calm = true) : zN X (.builtin "min") (fun xs H Q => ∃ i j, xs = [.int i, .int j] ∧ Q (.int (if j < i then j else i)) H) := by
  intro pins s σ H xs us Q I r h
  obtain ⟨i, j, rfl, q⟩ := h
  obtain ⟨u, w', rfl, ⟨t, rfl⟩, ⟨t', rfl⟩⟩ := Q4 r
  refine min_two_ints (I.ok.hd hc) fun h' tk k => ⟨_, H, I.kept k, ?_, q⟩
  by_cases hj : j < i
  · rw [if_pos hj, if_pos hj]; exact ⟨_, rfl⟩
  · rw [if_neg hj, if_neg hj]; exact ⟨_, rfl⟩
theorem qg : zN X (.type "int") (fun xs H Q => (∃ i, xs = [.int i] ∧ Q (.int i) H) ∨ ∃ k, xs = [.bl k] ∧ Q (.int (if k then 1 else 0)) H) := by
  intro pins s σ H xs us Q I r h
  rcases h with ⟨i, rfl, q⟩ | ⟨k, rfl, q⟩
  · obtain ⟨u, rfl, t, rfl⟩ := yW r
    exact call_int_int ⟨.int i, H, I, ⟨_, rfl⟩, q⟩
  · obtain ⟨u, rfl, r1⟩ := yW r
    cases r1
    exact call_int_bool ⟨.int (if k then 1 else 0), H, I.tok _, ⟨_, rfl⟩, q⟩
theorem jb : zN X (.type "str") (fun xs H Q => ∃ i, xs = [.int i] ∧ i.natAbs.log2 < 1920 ∧ Q (.str (toString i)) H) := by
  intro pins s σ H xs us Q I r h
  obtain ⟨i, rfl, hz, q⟩ := h
  obtain ⟨u, rfl, t, rfl⟩ := yW r
  exact PySem.P.str_of_int hz ⟨.str _, H, I.tok _, ⟨_, rfl⟩, q⟩
end
end L2
namespace L2
open PySem PySem.Spec PyProof.Rows
structure ObjM (h : Heap) (x dx C : Addr) (mA : Str → Option Value) : Prop where
  obj : h.get? x = some (PySem.W.instObj C dx)
  ns : h.Ns1 dx mA
  ne : dx ≠ x
theorem ZL {h : Heap} {dx : Addr} {mA : Str → Option Value} (n : h.Ns1 dx mA) : ∃ od, h.get? dx = some od ∧ ∀ name, PySem.W.lookIn name od = some (mA name) := by
  obtain ⟨o, es, ep, ho, hd, hk, _, hm⟩ := n
  refine ⟨o, ho, fun name => ?_⟩
  have e := hm name
  unfold nsFind findBy at e
  rw [← Array.find?_toList] at e
  unfold PySem.W.lookIn
  rw [hd]
  dsimp only
  split
  · rename_i y q
    rw [q] at e
    exact congrArg some e
  · rename_i q
    rw [q] at e
    have a : es.toList.any (·.refKey) = false := by
      rw [List.any_eq_false]
      intro y hy
      obtain ⟨z, t, hkey⟩ := hk y (Array.mem_toList_iff.mp hy)
      simp [DictEntry.refKey, hkey]
    have a' : ¬ es.toList.any (·.refKey) = true := by rw [a]; exact Bool.false_ne_true
    rw [if_neg a']
    exact congrArg some e
theorem ObjM.look {h : Heap} {x dx C : Addr} {mA : Str → Option Value} (I : ObjM h x dx C mA) : ∃ od, PySem.W.InstAt h x (PySem.W.instObj C dx) C (some od) ∧ ∀ name, PySem.W.lookIn name od = some (mA name) :=
  let ⟨od, ho, hl⟩ := ZL I.ns
  ⟨od, ⟨I.obj, rfl, rfl, ho⟩, hl⟩
section
variable {prog : Program} {w : World} {A : Around} {E : Value → Shared → Prop} {s : Shared} {K : PySem.W.Frag} {x dx C f : Addr} {mA : Str → Option Value} {name : Str} {v : Value}
end
section
variable {P : Program} {w : World} {H H' : Hp} {h h' : Heap} {a C dx : Addr} {fs fs' : List (Str × V)}
theorem VE (hok : HOk P w H h) (e : H a = some (.ins C dx fs)) : ∃ mA, ObjM h a dx C mA ∧ (∀ f, xO (fs.lookup f) (mA f)) ∧ PySem.Within mA (fs.map (·.1)) ∧ fs.length ≤ 1000 ∧ H dx = some (.own a) := by
  obtain ⟨d, z, ne, ob, mA, n, r, q⟩ := (show zI P w H h a (.ins C dx fs) from hok a _ e)
  exact ⟨mA, ⟨ob, n, ne⟩, r, q, z, d⟩
end
structure Cls (K : PySem.W.Frag) (C : Addr) : Prop where
  pg : PySem.W.plainGet K C Str.empty = true
  hd : PySem.W.hasDictIn K C = true
  po : PySem.W.plainOver K C = true
  sa : PySem.W.findIn K (.ref C) "__setattr__" = some (some (.builtin "object.__setattr__"))
theorem Cls.get {K : PySem.W.Frag} {C : Addr} (c : Cls K C) (f : Str) : PySem.W.plainGet K C f = true := c.pg
noncomputable def ZM (K : PySem.W.Frag) (C : Addr) (f : Str) : Prop := PySem.W.findIn K (.ref C) f = some none
section
variable {X : Cx} {pins : List (Addr × Obj)} {σ : St} {H : Hp} {s : Shared} {a C dx : Addr} {fs : List (Str × V)} {f : Str} {v : V} {A : Around} {E : Value → Shared → Prop}
theorem Inv.made (I : Inv X pins σ H s) : Inv X pins σ (upd (upd H s.heap.objs.size (.own (s.heap.objs.size + 1))) (s.heap.objs.size + 1) (.ins C s.heap.objs.size []))
    { s with heap := (s.heap.push PySem.W.emptyDict).push (PySem.W.instObj C s.heap.objs.size) } := by
  have e1 : (s.heap.push PySem.W.emptyDict).get? s.heap.objs.size = some PySem.W.emptyDict := Heap.get?_push_size s.heap rfl
  have e2 : ((s.heap.push PySem.W.emptyDict).push (PySem.W.instObj C s.heap.objs.size)).get? (s.heap.objs.size + 1) = some (PySem.W.instObj C s.heap.objs.size) := by
    have := Heap.get?_push_size (s.heap.push PySem.W.emptyDict) (o := PySem.W.instObj C s.heap.objs.size) rfl
    rwa [Heap.size_push] at this
  have e3 : (s.heap.push PySem.W.emptyDict).Ns s.heap.objs.size (fun _ => none) := ⟨PySem.W.emptyDict, #[], _, e1, rfl, (fun e he => absurd he (by simp)), fun _ => rfl⟩
  have I1 := I.laid (a := s.heap.objs.size) (o := .own (s.heap.objs.size + 1)) (h' := s.heap.push PySem.W.emptyDict) (t' := s.toks) (fun b u q => Heap.get?_push_of_some _ q) (Nat.le_refl _) ⟨_, e1⟩
  refine I1.laid (a := s.heap.objs.size + 1) (o := .ins C s.heap.objs.size []) (t' := s.toks) (fun b u q => Heap.get?_push_of_some _ q) (Nat.le_of_eq (Heap.size_push _ _)) ?_
  have ne : s.heap.objs.size ≠ s.heap.objs.size + 1 := Nat.ne_of_lt (Nat.lt_succ_self _)
  refine ⟨by rw [za ne, ze], Nat.zero_le _, ne, e2, fun _ => none, (Heap.Ns1.of_empty e3).at fun o q => Heap.get?_push_of_some _ q, fun _ => True.intro, fun y hy => absurd rfl hy⟩
end
section
variable {X : Cx} {o e value : Expr} {f : Str} {pos pos' tpos : Pos} {ta tv : TE}
end
section
variable {X : Cx} {pins : List (Addr × Obj)} {σ : St} {H : Hp} {s : Shared} {A : Around} {E : Value → Shared → Prop} {Q : Value → Shared → Prop} {c : Value} {b : Bool}
inductive TyOf (K : PySem.W.Frag) (H : Hp) : V → Value → Prop where
  | non : TyOf K H .non (.type "NoneType")
  | bl (x : Bool) : TyOf K H (.bl x) (.type "bool")
  | int (i : Int) : TyOf K H (.int i) (.type "int")
  | str (x : Str) : TyOf K H (.str x) (.type "str")
  | flt (x : UInt64) : TyOf K H (.flt x) (.type "float")
  | lst {a : Addr} {xs : List V} (e : H a = some (.lst xs)) : TyOf K H (.ref a) (.type "list")
  | frz {a : Addr} {o : Obj} {xs : List V} (e : H a = some (.frz o (.lst xs))) : TyOf K H (.ref a) (.type "list")
  | tup {a : Addr} {xs : List V} (e : H a = some (.tup xs)) : TyOf K H (.ref a) (.type "tuple")
  | dK {a : Addr} {kvs : List (Key × V)} (e : H a = some (.dK kvs)) : TyOf K H (.ref a) (.type "dict")
  | dT {a : Addr} {kvs : List (List Key × V)} (e : H a = some (.dT kvs)) : TyOf K H (.ref a) (.type "dict")
  | ins {a C dx : Addr} {fs : List (Str × V)} (e : H a = some (.ins C dx fs)) (cl : Cls K C) (ha : PySem.W.findIn K (.ref C) "__class__" = some (some (.builtin "object.__class__")))
      (hn : PySem.W.specialIn K (.builtin "object.__class__") "__get__" = some (some (.builtin "getset_descriptor.__get__"))) (htk : PySem.W.takesIn K (.builtin "object.__class__") = some true)
      (hm : PySem.W.mroIn K C (.type "object") = some true) : TyOf K H (.ref a) (.ref C)
theorem xv {x : V} {u t : Value} (I : Inv X pins σ H s) (rx : RelV x u) (ty : TyOf X.K H x t) (e : PySem.W.kitOne X.K t c = some b) (h : ∀ tk, Q (.bool b) { s with toks := tk }) :
    wpAny (model X.prog X.w) A (call (.builtin "isinstance") [u, c]) Q E s := by
  cases ty with
  | non => cases (show u = Value.none from rx); exact PySem.W.kia_one PySem.W.kitx_none I.kIn True.intro e (fun z => nomatch z) h
  | bl y => cases (show u = Value.bool y from rx); exact PySem.W.kia_one PySem.W.kitx_bool I.kIn True.intro e (fun z => nomatch z) h
  | int i => obtain ⟨t, q⟩ := (show ∃ t, u = Value.int i t from rx); cases q; exact PySem.W.kia_one PySem.W.kitx_int I.kIn True.intro e (fun z => nomatch z) h
  | str y => obtain ⟨t, q⟩ := (show ∃ t, u = Value.str y t from rx); cases q; exact PySem.W.kia_one PySem.W.kitx_str I.kIn True.intro e (fun z => nomatch z) h
  | flt y => obtain ⟨t, q⟩ := (show ∃ t, u = Value.float y t from rx); cases q; exact PySem.W.kia_one PySem.W.kitx_float I.kIn True.intro e (fun z => nomatch z) h
  | @lst a xs ea =>
    cases (show u = Value.ref a from rx)
    obtain ⟨_, _, n, _, h1⟩ := (show zI X.prog X.w H s.heap a (.lst xs) from I.hok a _ ea)
    exact PySem.W.kia_one PySem.W.kitx_list I.kIn ⟨_, h1, rfl⟩ e (fun z => nomatch z) h
  | @frz a ob xs ea =>
    cases (show u = Value.ref a from rx)
    obtain ⟨_, _, _, n, _, h1⟩ := (show zI X.prog X.w H s.heap a (.frz ob (.lst xs)) from I.hok a _ ea)
    exact PySem.W.kia_one PySem.W.kitx_list I.kIn ⟨_, h1, rfl⟩ e (fun z => nomatch z) h
  | @tup a xs ea =>
    cases (show u = Value.ref a from rx)
    obtain ⟨_, _, _, p⟩ := (show zI X.prog X.w H s.heap a (.tup xs) from I.hok a _ ea)
    obtain ⟨o, h1, h2, _⟩ := p
    exact PySem.W.kia_one PySem.W.kitx_tuple I.kIn ⟨o, h1, h2⟩ e (fun z => nomatch z) h
  | @dK a kvs ea =>
    cases (show u = Value.ref a from rx)
    obtain ⟨_, _, vs, _, p⟩ := (show zI X.prog X.w H s.heap a (.dK kvs) from I.hok a _ ea)
    obtain ⟨o, es, ep, h1, h2, _⟩ := p
    exact PySem.W.kia_one PySem.W.kitx_dict I.kIn ⟨o, h1, h2.1⟩ e (fun z => nomatch z) h
  | @dT a kvs ea =>
    cases (show u = Value.ref a from rx)
    obtain ⟨_, _, xs, _, o, es, ep, h1, h2, _⟩ := (show zI X.prog X.w H s.heap a (.dT kvs) from I.hok a _ ea)
    exact PySem.W.kia_one PySem.W.kitx_dict I.kIn ⟨o, h1, h2.1⟩ e (fun z => nomatch z) h
  | @ins a C dx fs ea cl ha hn htk hm =>
    cases (show u = Value.ref a from rx)
    obtain ⟨mA, O, _⟩ := VE I.hok ea
    obtain ⟨od, J, _⟩ := O.look
    exact PySem.W.kia_one (PySem.W.kitx_own (cl.get _) cl.hd ha hn htk hm) I.kIn J e (fun z => nomatch z) h
end
end L2
namespace L2
open PySem PySem.Spec PyProof.Rows
structure Room (k : Nat) (A : Around) : Prop where
  hd : A.handled = none
  dp : A.depth + 3 * k + 5 < recursionLimit
  un : A.units + 16 * k + 200 < cLine
  gd : A.guards = some []
theorem Room.mono {j k : Nat} {A : Around} (r : Room k A) (h : j ≤ k) : Room j A := ⟨r.hd, by have := r.dp; omega, by have := r.un; omega, r.gd⟩
theorem Room.deeper {k : Nat} {A : Around} (r : Room (k + 1) A) (env : Env) : Room k (A.deeper env) :=
  ⟨r.hd, by have := r.dp; show A.depth + 1 + 3 * k + 5 < _; omega, by have := r.un; show A.units + 3 + 16 * k + 200 < _; omega, r.gd⟩
theorem Room.depth {k : Nat} {A : Around} (r : Room k A) : A.depth < recursionLimit := by have := r.dp; omega
theorem Room.units {k : Nat} {A : Around} (r : Room k A) : A.units + 64 < cLine := by have := r.un; omega
noncomputable def uD : TA := fun _ H Q => Q [] H
noncomputable def xS (ta : TE) (tr : TA) : TA := fun σ H Q => ta σ H fun x H1 => tr σ H1 fun xs H2 => Q (x :: xs) H2
section
variable {X : Cx} {e : Expr} {es : List Expr} {te : TE} {t : TA} {pos : Pos}
theorem UT : PA X [] uD := fun _ _ _ _ H Q I h => Calls.spliced_nil ⟨[], H, I, .nil, h⟩
theorem VF (ha : PE X e te) (hr : PA X es t) (hs : starEach (e :: es) X.env = (false, eval e X.env) :: starEach es X.env := by rfl) : PA X (e :: es) (xS te t) := by
  intro pos pins s σ H Q I h
  rw [hs]
  show wpAny _ _ (spliced ((false, eval e X.env) :: backTo pos (starEach es X.env))) _ _ s
  refine Calls.spliced_cons (thn (ha pins s σ H _ I h) fun u s1 ⟨x, H1, I1, r1, q1⟩ => ?_)
  exact thn (hr pos pins s1 σ H1 _ I1 q1) fun us s2 ⟨xs, H2, I2, r2, q2⟩ => ⟨x :: xs, H2, I2, .cons r1 r2, q2⟩
noncomputable def k6 (t : TA) : TE := fun σ H Q => t σ H fun xs H1 => xs.length ≤ sizeLine ∧ ∀ p, H1 p = none → Q (.ref p) (upd H1 p (.tup xs))
noncomputable def uE (t : TA) : TE := fun σ H Q => t σ H fun xs H1 => xs.length ≤ sizeLine ∧ ∀ p, H1 p = none → Q (.ref p) (upd H1 p (.lst xs))
theorem UU {x1} (h : PA X es t) : PE X (.Tuple es x1 pos) (k6 t) := by
  intro pins s σ H Q I hq
  refine wpAny_Tuple_spliced (thn (h pos pins s σ H _ I hq) fun us s1 ⟨xs, H1, I1, r, z, q⟩ => ⟨by rw [← r.length]; exact z, ?_⟩)
  have hf : H1 s1.heap.objs.size = none := I1.hok.fresh (Nat.le_refl _)
  refine ⟨.ref s1.heap.objs.size, upd H1 s1.heap.objs.size (.tup xs), I1.laid (t' := s1.toks) (fun b u e => Heap.get?_push_of_some _ e) (Nat.le_refl _) ?_, rfl, q _ hf⟩
  exact ⟨z, us, r, ⟨_, Heap.get?_push_size _ rfl, rfl, _, rfl⟩⟩
theorem ZN (h : PA X es t) : PE X (.List es pos) (uE t) := by
  intro pins s σ H Q I hq
  refine wpAny_List_spliced (thn (h pos pins s σ H _ I hq) fun us s1 ⟨xs, H1, I1, r, z, q⟩ => ⟨by rw [← r.length]; exact z, ?_⟩)
  have hf : H1 s1.heap.objs.size = none := I1.hok.fresh (Nat.le_refl _)
  refine ⟨.ref s1.heap.objs.size, upd H1 s1.heap.objs.size (.lst xs), I1.laid (t' := s1.toks) (fun b u e => Heap.get?_push_of_some _ e) (Nat.le_refl _) ?_, rfl, q _ hf⟩
  exact ⟨z, us, 0, r, Heap.get?_push_size _ rfl⟩
end
noncomputable abbrev Sp := List V → Hp → VK → XK → Prop
noncomputable abbrev CXT := List Env → Hp → Shared → XK → Value → Shared → Prop
structure Env0 (P : Program) (w : World) (K : PySem.W.Frag) (mg : Str → Option Value) (base : Heap) (A : Around) (outer : List Env) (s : Shared) (H : Hp) : Prop where
  frames : A.frames = some outer
  mod : Mod K mg base
  bs : ∀ b o, base.get? b = some o → s.heap.get? b = some o ∧ H b = none
  bsz : base.objs.size ≤ s.heap.objs.size
  funs : s.heap.FunFrames base outer
  frf : ∀ b ∈ frs outer, H b = none
  hok : HOk P w H s.heap
  bare : AllBare s.gens
noncomputable def CE (outer : List Env) (P : Program) (w : World) (H : Hp) (s : Shared) (Q : VK) (u : Value) (s' : Shared) : Prop :=
  ∃ v H', s'.os = s.os ∧ AllBare s'.gens ∧ Un (frs outer) [] H H' s.heap s'.heap ∧ HOk P w H' s'.heap ∧ RelV v u ∧ Q v H'
noncomputable def CR (CX : CXT) (outer : List Env) (P : Program) (w : World) (H : Hp) (s : Shared) (Q : VK) (E : XK) (r : Result) (s' : Shared) : Prop :=
  match r with
  | .ok (.ret u) => CE outer P w H s Q u s'
  | .ok _ => False
  | .error e => CX outer H s E e s'
structure FnOk (P : Program) (w : World) (K : PySem.W.Frag) (mg : Str → Option Value) (base : Heap) (CX : CXT) (k : Nat) (f : Addr) (fd : FuncData) (ps : List Str) (sp : Sp) : Prop where
  len : ∀ vs H Q E, sp vs H Q E → vs.length = ps.length
  run : ∀ (A : Around) (outer : List Env) (s : Shared) (H : Hp) (args : Args) (us : List Value) (vs : List V) (Q : VK) (E : XK), Room k A → Env0 P w K mg base A outer s H → BindsTo s fd args (ps.zip us) → Vals vs us → sp vs H Q E →
    codeAny (model P w) A (.call (.ref f) args) (CR CX outer P w H s Q E) s
theorem FnOk.mono {P : Program} {w : World} {K : PySem.W.Frag} {mg : Str → Option Value} {base : Heap} {CX : CXT} {j k : Nat} {f : Addr} {fd : FuncData} {ps : List Str} {sp : Sp} (F : FnOk P w K mg base CX j f fd ps sp) (h : j ≤ k) :
    FnOk P w K mg base CX k f fd ps sp := ⟨F.len, fun A outer s H args us vs Q E hr => F.run A outer s H args us vs Q E (hr.mono h)⟩
theorem FnOk.imp {P : Program} {w : World} {K : PySem.W.Frag} {mg : Str → Option Value} {base : Heap} {CX : CXT} {k : Nat} {f : Addr} {fd : FuncData} {ps : List Str} {sp sp' : Sp} (F : FnOk P w K mg base CX k f fd ps sp)
    (h : ∀ vs H Q E, sp' vs H Q E → sp vs H Q E) : FnOk P w K mg base CX k f fd ps sp' :=
  ⟨fun vs H Q E q => F.len vs H Q E (h _ _ _ _ q), fun A outer s H args us vs Q E hr he hb hv hs => F.run A outer s H args us vs Q E hr he hb hv (h _ _ _ _ hs)⟩
section
variable {X : Cx} {pins : List (Addr × Obj)} {σ : St} {H : Hp} {s s' : Shared}
theorem Inv.env0 (I : Inv X pins σ H s) : Env0 X.prog X.w X.K X.mg X.base X.A X.stack s H :=
  ⟨I.ok.frames, I.ok.mod, I.bs, Nat.le_trans I.ok.bsz I.sz, I.stack, I.stkFree, I.hok, I.bare⟩
theorem Inv.after {Q : VK} {u : Value} (I : Inv X pins σ H s) (h : CE X.stack X.prog X.w H s Q u s') : EP X pins σ Q u s' := by
  obtain ⟨v, H', os, bare, un, hok, r, q⟩ := h
  obtain ⟨hh, g, d, t, os'⟩ := s'
  obtain rfl : os' = s.os := os
  exact ⟨v, H', I.call (h' := hh) (g' := g) (d' := d) (t' := t) (ch := []) un hok bare (fun b z => absurd z (by simp)), r, q⟩
end
noncomputable def yp (sp : Sp) (dvs : List V) (E : XK) (t : TA) : TE := fun σ H Q => t σ H fun vs H1 => sp (vs ++ dvs) H1 Q E
noncomputable def Binds (K : PySem.W.Frag) (fd : FuncData) (ps : List Str) (ds : List Value) : Prop :=
  ∀ (s : Shared) (us : List Value), K.In s.heap → (us ++ ds).length = ps.length → BindsTo s fd ⟨us, []⟩ (ps.zip (us ++ ds))
theorem Binds.all {K : PySem.W.Frag} {fd : FuncData} {ps : List Str} (h : ∀ us : List Value, us.length = ps.length → bindArgs fd ⟨us, []⟩ = pure (ps.zip us)) : Binds K fd ps [] := fun s us _ hl => by
  rw [List.append_nil] at hl ⊢
  exact .of_eq (h us hl)
noncomputable def xH (CX : CXT) (X : Cx) (E : XK) : Prop := ∀ (pins : List (Addr × Obj)) (σ : St) (H : Hp) (s : Shared) (e : Value) (s' : Shared), Inv X pins σ H s → CX X.stack H s E e s' → X.xe e s'
section
variable {X : Cx} {CX : CXT} {k : Nat} {f C : Addr} {fd : FuncData} {ps : List Str} {sp : Sp} {dvs : List V} {ds : List Value} {E : XK} {x m : Str} {p pos apos : Pos} {e o : Expr} {es : List Expr} {ta : TE} {t : TA}
theorem UV {pins : List (Addr × Obj)} {σ : St} {H : Hp} {s : Shared} {Q : VK} {us : List Value} {vs : List V} (F : FnOk X.prog X.w X.K X.mg X.base CX k f fd ps sp) (hr : Room k X.A) (hb : Binds X.K fd ps ds) (hd : Vals dvs ds) (hx : xH CX X E)
    (I : Inv X pins σ H s) (r : Vals vs us) (h : sp (vs ++ dvs) H Q E) : wpAny (model X.prog X.w) X.A (call (.ref f) us) (EP X pins σ Q) X.xe s := by
  have r2 : Vals (vs ++ dvs) (us ++ ds) := r.append hd
  have hl : (us ++ ds).length = ps.length := by rw [← r2.length]; exact F.len _ _ _ _ h
  refine wpAny_call (codeAny_mono (F.run X.A X.stack s H ⟨us, []⟩ (us ++ ds) (vs ++ dvs) Q E hr I.env0 (hb s us I.kIn hl) r2 h) fun r s' hq => ?_)
  cases r with
  | error e => exact hx pins σ H s e s' I hq
  | ok fl =>
    cases fl with
    | ret u => exact I.after hq
    | next => exact False.elim hq
    | brk => exact False.elim hq
    | cont => exact False.elim hq
theorem kd (F : FnOk X.prog X.w X.K X.mg X.base CX k f fd ps sp) (hr : Room k X.A) (hg : Gl X x) (hm : X.mg x = some (.ref f)) (hk : PySem.W.keepIn X.K (.ref f) = true) (hb : Binds X.K fd ps ds) (hd : Vals dvs ds) (hx : xH CX X E)
    (ha : PA X (e :: es) t) (hdb : (x == ("__debug__" : Str)) = false := by decide) (he : starEach (e :: es) X.env = (false, eval e X.env) :: starEach es X.env := by rfl) (hpl : (backTo pos (starEach es X.env)).any (·.1) = false := by rfl) :
    PE X (.Call (.Name x p) (e :: es) [] pos) (yp sp dvs E t) := by
  intro pins s σ H Q I h
  refine wpAny_Call_Name_kw (xC I hg hm ?_ hdb)
  refine PySem.W.callWith_K (h₀ := X.base) I.ok.mod.kin hk (thn (ha pos pins s σ H _ I h) fun us s1 ⟨vs, H1, I1, r, q⟩ => ⟨I1.kIn, ?_⟩) he hpl
  exact UV F hr hb hd hx I1 r q
end
section
variable {X : Cx} {CX : CXT} {k : Nat} {f C : Addr} {fd : FuncData} {ps ks : List Str} {sp : Sp} {E : XK} {x m : Str} {p pos apos kpos : Pos} {e o : Expr} {es : List Expr} {kws : List Keyword} {te ta : TE} {t tk : TA} {nm : Option Str}
variable {g : List Value → List Value → List Value} {gV : List V → List V → List V}
end
structure FnScope (N P : List Str) (sc : Scope) : Prop where
  kind : sc.kind = .function
  co : sc.isCoroutine = false
  gen : sc.isGenerator = false
  nd : N.Nodup
  pre : N.take P.length = P
  par : ∀ x ∈ P, sc.names.lookup x = some .local ∨ sc.names.lookup x = some .cell
  nofree : ∀ y ∈ sc.names, y.2 ≠ .free
theorem qh {kindOf : Str → Option NameKind} {x : Str} : ∀ {binds : List (Str × Value)} {m : Str → Option Value}, (∀ v, (x, v) ∉ binds) → bindL kindOf binds m x = m x
  | [], _, _ => rfl
  | (n, v) :: r, m, h => by
    unfold bindL
    rw [qh fun w hw => h w (List.mem_cons_of_mem _ hw)]
    split
    · have : x ≠ n := by rintro rfl; exact h v List.mem_cons_self
      simp [this]
    · rfl
theorem qi {kindOf : Str → Option NameKind} {x : Str} : ∀ {binds : List (Str × Value)} {m : Str → Option Value}, (∀ v, (x, v) ∉ binds) → bindC kindOf binds m x = m x
  | [], _, _ => rfl
  | (n, v) :: r, m, h => by
    unfold bindC
    rw [qi fun w hw => h w (List.mem_cons_of_mem _ hw)]
    split
    · rfl
    · have : x ≠ n := by rintro rfl; exact h v List.mem_cons_self
      simp [this]
theorem qj {kindOf : Str → Option NameKind} {x : Str} {v : Value} : ∀ {P : List Str} {vs : List Value} {i : Nat} {m : Str → Option Value}, P.Nodup → P[i]? = some x → vs[i]? = some v → kindOf x = some .local →
    bindL kindOf (P.zip vs) m x = some v
  | [], _, _, _, _, h, _, _ => by simp at h
  | _ :: _, [], _, _, _, _, h, _ => by simp at h
  | p :: P, w :: vs, 0, m, nd, h1, h2, hk => by
    simp at h1 h2; subst h1; subst h2
    show bindL kindOf ((p, w) :: P.zip vs) m p = _
    unfold bindL
    rw [qh fun v hv => (List.nodup_cons.mp nd).1 (List.of_mem_zip hv).1, if_pos hk]
    simp
  | p :: P, w :: vs, i + 1, m, nd, h1, h2, hk => by
    show bindL kindOf ((p, w) :: P.zip vs) m x = _
    unfold bindL
    exact qj (i := i) (List.nodup_cons.mp nd).2 (by simpa using h1) (by simpa using h2) hk
theorem ql {kindOf : Str → Option NameKind} {x : Str} {v : Value} : ∀ {P : List Str} {vs : List Value} {i : Nat} {m : Str → Option Value}, P.Nodup → P[i]? = some x → vs[i]? = some v → kindOf x ≠ some .local →
    bindC kindOf (P.zip vs) m x = some v
  | [], _, _, _, _, h, _, _ => by simp at h
  | _ :: _, [], _, _, _, _, h, _ => by simp at h
  | p :: P, w :: vs, 0, m, nd, h1, h2, hk => by
    simp at h1 h2; subst h1; subst h2
    show bindC kindOf ((p, w) :: P.zip vs) m p = _
    unfold bindC
    rw [qi fun v hv => (List.nodup_cons.mp nd).1 (List.of_mem_zip hv).1, if_neg hk]
    simp
  | p :: P, w :: vs, i + 1, m, nd, h1, h2, hk => by
    show bindC kindOf ((p, w) :: P.zip vs) m x = _
    unfold bindC
    exact ql (i := i) (List.nodup_cons.mp nd).2 (by simpa using h1) (by simpa using h2) hk
noncomputable def start (N : List Str) (vs : List V) : St := vs.map some ++ List.replicate (N.length - vs.length) none
noncomputable def cxOf (CX : CXT) (P : Program) (w : World) (K : PySem.W.Frag) (mg : Str → Option Value) (base : Heap) (N : List Str) (qual : Str) (scope : Scope) (f : Addr) (cd : Value) (A : Around) (outer : List Env) (s : Shared) (H : Hp) (E : XK) : Cx where
  prog := P
  w := w
  K := K
  mg := mg
  base := base
  A := A.deeper (envOfC qual scope s.heap.objs.size f cd)
  N := N
  s₀ := s
  H₀ := H
  env := envOfC qual scope s.heap.objs.size f cd
  outer := outer
  stack := envOfC qual scope s.heap.objs.size f cd :: outer
  ex := []
  calm := true
  fn := fun _ => true
  pn := []
  xe := fun e s' => wpAny (model P w) (A.deeper (envOfC qual scope s.heap.objs.size f cd)) (leaving (envOfC qual scope s.heap.objs.size f cd) e) (fun _ s'' => CX outer H s E e s'') (fun e' s'' => CX outer H s E e' s'') s'
theorem jc {sc : Scope} {n : Nat} {x : Str} (h : sc.names.lookup x = some .cell) : ∃ c, (cellsFrom n sc.names []).lookup x = some c := by
  have q := PySem.W.cellsFrom_some sc.names n [] (.inl h)
  exact Option.isSome_iff_exists.mp q
theorem qm {CX : CXT} {P : Program} {w : World} {K : PySem.W.Frag} {mg : Str → Option Value} {base : Heap} {N ps : List Str} {qual : Str} {scope : Scope} {f : Addr} {cd : Value} {A : Around} {outer : List Env} {s s1 : Shared} {H : Hp} {E : XK} {us : List Value} {vs : List V}
    (S : FnScope N ps scope) (hd : A.handled = none) (e0 : Env0 P w K mg base A outer s H) (hl : vs.length = ps.length) (r : Vals vs us)
    (x : InCallC s s.heap.objs.size (bindL (envOfC qual scope s.heap.objs.size f cd).kindOf (ps.zip us) fun _ => none) (cellsFrom (s.heap.objs.size + 1) scope.names []) (bindC (envOfC qual scope s.heap.objs.size f cd).kindOf (ps.zip us) fun _ => none) s1) :
    Inv (cxOf CX P w K mg base N qual scope f cd A outer s H E) [] (start N vs) H s1 := by
  have hpl : ps.length ≤ N.length := by have := congrArg List.length S.pre; rw [List.length_take] at this; omega
  obtain ⟨h1, tk, rfl, hk⟩ := x.done
  have noA : ∀ b : Addr, b ∉ (cxOf CX P w K mg base N qual scope f cd A outer s H E).ex := fun b z => absurd (show b ∈ ([] : List Addr) from z) (by simp)
  refine ⟨⟨e0.mod, S.kind, rfl, rfl, Nat.le_refl _, fun y z c h1 h2 => ?_, fun y hy => ?_, fun y c _ h => ?_, fun _ => hd, Around.frames_deeper e0.frames, .inr ⟨rfl, rfl⟩, fun b z => absurd z (noA b), e0.bs, e0.bsz, fun b _ _ => noA b, fun b z => absurd z (noA b), e0.funs, e0.frf⟩,
    rfl, e0.bare, Un.kept hk, ⟨_, x.toInCall.ns, fun i y v h1 h2 h3 => ?_⟩, fun y c h => ⟨_, x.cell y c h⟩, e0.hok.fresh (Nat.le_refl _), fun y c h => ?_, fun p hp => absurd (show p ∈ ([] : List (Addr × Obj)) from hp) (by simp), e0.hok.kept hk, ?_⟩
  · exact name_of_addr x.apart (PySem.mem_of_lookup h1) (PySem.mem_of_lookup h2)
  · have hy : scope.names.lookup y = some .cell ∨ scope.names.lookup y = some .free := hy
    rcases hy with hy | hy
    · exact jc hy
    · exact absurd rfl (S.nofree _ (PySem.mem_of_lookup hy))
  · exact Nat.le_of_lt (x.above y c (PySem.mem_of_lookup h))
  · have hi : i < vs.length := by
      unfold start at h2
      by_cases hi : i < vs.length
      · exact hi
      · rw [List.getElem?_append_right (by simpa using hi)] at h2
        rw [List.getElem?_replicate] at h2
        split at h2 <;> cases h2
    have ha : vs[i]? = some v := by
      unfold start at h2
      rw [List.getElem?_append_left (by simpa using hi), List.getElem?_map] at h2
      cases e : vs[i]? with
      | none => rw [e] at h2; cases h2
      | some a => rw [e] at h2; cases h2; rfl
    obtain ⟨u, hu, rv⟩ := r.get ha
    have hp : ps[i]? = some y := by
      rw [← S.pre, List.getElem?_take_of_lt (by omega)]; exact h1
    have ndP : ps.Nodup := by rw [← S.pre]; exact S.nd.sublist (List.take_sublist _ _)
    refine ⟨u, rv, ?_⟩
    rcases S.par y (List.mem_of_getElem? hp) with k | k
    · exact .inl ⟨k, qj ndP hp hu k⟩
    · obtain ⟨c, e⟩ := jc (n := s.heap.objs.size + 1) k
      refine .inr ⟨.inl k, c, e, ?_⟩
      have q := x.cell y c e
      rw [ql ndP hp hu (by show scope.names.lookup y ≠ _; rw [k]; decide)] at q
      exact q
  · exact e0.hok.fresh (Nat.le_of_lt (x.above y c (PySem.mem_of_lookup h)))
  · unfold start
    show _ = N.length
    rw [List.length_append, List.length_map, List.length_replicate]
    omega
theorem qL {CX : CXT} {P : Program} {w : World} {K : PySem.W.Frag} {mg : Str → Option Value} {base : Heap} {k : Nat} {f : Addr} {name qual : Str} {params : Arguments} {body : List Stmt} {scope : Scope} {dV kV doc pm cdv ct oc : Value} {an od : Option Addr}
    {osl : Array (Option Value)} {N ps : List Str} {sp : Sp} (lk : K.lookup f = some ⟨oc, od, .func (PySem.W.fnOf name qual params body scope dV kV doc pm an cdv ct), osl⟩) (hcd : PySem.W.codeIn K cdv qual = true) (S : FnScope N ps scope)
    (len : ∀ vs H Q E, sp vs H Q E → vs.length = ps.length)
    (hbody : ∀ (A : Around) (outer : List Env) (s : Shared) (H : Hp) (vs : List V) (Q : VK) (E : XK), Room k (A.deeper (envOfC qual scope s.heap.objs.size f cdv)) → sp vs H Q E →
      ∃ t, PSs (cxOf CX P w K mg base N qual scope f cdv A outer s H E) body t ∧ t { nx := fun _ H' => Q .non H', rt := Q } (start N vs) H) :
    FnOk P w K mg base CX (k + 1) f (PySem.W.fnOf name qual params body scope dV kV doc pm an cdv ct) ps sp := by
  refine ⟨len, fun A outer s H args us vs Q E hr e0 hb r hsp => ?_⟩
  have hl := len _ _ _ _ hsp
  have KX : K.In s.heap := e0.mod.kin.keeps fun b o e => (e0.bs b o e).1
  have lim : s.heap.NoLimit := e0.mod.nolimit.keeps fun b o e => (e0.bs b o e).1
  have hkind : ∀ y ∈ ps.zip us, scope.names.lookup y.1 = some .local ∨ (scope.names.lookup y.1 = some .cell ∧ ((cellsFrom (s.heap.objs.size + 1) scope.names []).lookup y.1).isSome = true) := fun ⟨n, v⟩ hy => by
    rcases S.par n (List.of_mem_zip hy).1 with q | q
    · exact .inl q
    · exact .inr ⟨q, PySem.W.cellsFrom_some _ _ _ (.inl q)⟩
  refine codeAny_call_function hr.depth (KX _ _ lk) rfl S.co S.gen rfl (PySem.W.codeRec_of KX hcd) (hb _ _ _ _ ?_)
  refine wpAny_newFunctionEnv_cells S.kind hkind fun env he s1 x => ?_
  subst he
  refine ⟨lim.keeps x.toInCall.keep, codeAny_func ?_⟩
  obtain ⟨t, ht, hq⟩ := hbody A outer s H vs Q E (hr.deeper _) hsp
  have I : Inv (cxOf CX P w K mg base N qual scope f cdv A outer s H E) [] (start N vs) H s1 := qm S hr.hd e0 hl r x
  refine wpAny_mono (ht [] s1 (start N vs) H _ I hq) (fun fl s' hs => ?_) fun e s' hs => hs
  have fin : ∀ {σ' : St} {H' : Hp} {v : V} {u : Value}, Inv (cxOf CX P w K mg base N qual scope f cdv A outer s H E) [] σ' H' s' → RelV v u → Q v H' → CE outer P w H s Q u s' :=
    fun {σ' H' v u} J rv q => ⟨v, H', J.os, J.bare, J.base, J.hok, rv, q⟩
  cases fl with
  | ret u =>
    obtain ⟨v, σ', H', J, rv, q⟩ := hs
    exact fin J rv q
  | next =>
    obtain ⟨σ', H', J, q⟩ := hs
    exact fin (v := V.non) (u := Value.none) J rfl q
  | brk =>
    obtain ⟨_, _, _, q⟩ := hs
    exact False.elim q
  | cont =>
    obtain ⟨_, _, _, q⟩ := hs
    exact False.elim q
end L2
namespace L2
open PySem PySem.Spec PyProof.Rows
section
variable {X : Cx} {x : Str} {p pos : Pos} {e : Expr} {es : List Expr} {t : TA} {id T : String} {r : List V → Hp → VK → Prop}
noncomputable def tCB (r : List V → Hp → VK → Prop) (t : TA) : TE := fun σ H Q => t σ H fun vs H1 => r vs H1 Q
theorem zy (hc : zN X (.builtin id) r) (hg : Gl X x) (hm : X.mg x = none) (hv : bootBuiltins x = some (.builtin id)) (ha : PA X (e :: es) t) (hn : x ≠ "__name__" := by decide) (hdb : (x == ("__debug__" : Str)) = false := by decide)
    (he : starEach (e :: es) X.env = (false, eval e X.env) :: starEach es X.env := by rfl) (hpl : (backTo pos (starEach es X.env)).any (·.1) = false := by rfl) : PE X (.Call (.Name x p) (e :: es) [] pos) (tCB r t) := by
  intro pins s σ H Q I h
  refine wpAny_Call_Name_kw (vT I hg hm hv ?_ hn hdb)
  exact PyProof.Rows.callWith_builtin1 (thn (ha pos pins s σ H _ I h) fun us s1 ⟨vs, H1, I1, r1, q1⟩ => hc pins s1 σ H1 vs us Q I1 r1 q1) he hpl
theorem yP (hc : zN X (.type T) r) (hg : Gl X x) (hm : X.mg x = none) (hv : bootBuiltins x = some (.type T)) (ha : PA X (e :: es) t) (hn : x ≠ "__name__" := by decide) (hdb : (x == ("__debug__" : Str)) = false := by decide)
    (he : starEach (e :: es) X.env = (false, eval e X.env) :: starEach es X.env := by rfl) (hpl : (backTo pos (starEach es X.env)).any (·.1) = false := by rfl) : PE X (.Call (.Name x p) (e :: es) [] pos) (tCB r t) := by
  intro pins s σ H Q I h
  refine wpAny_Call_Name_kw (vT I hg hm hv ?_ hn hdb)
  exact PyProof.Rows.callWith_type1 (thn (ha pos pins s σ H _ I h) fun us s1 ⟨vs, H1, I1, r1, q1⟩ => hc pins s1 σ H1 vs us Q I1 r1 q1) he hpl
end
end L2
namespace HT
open PySem PyProof.Rows
section
open PySem.SeqAt
open PySem.AutoSeq1 (wpAny_loadPart')
open PySem.MeetsSeq PySem.MeetsSeq2 PySem.MeetsSeq3
end
section
variable {prog : Program} {w : World} {A : Around} {E : Value → Shared → Prop} {s : Shared}
noncomputable def sIx (n d : Nat) : Option Int → Nat
  | none => d
  | some v => if v < 0 then (v + (n : Int)).toNat else min v.toNat n
theorem sIx_none (n d : Nat) : sIx n d none = d := rfl
theorem sIx_nat (n d k : Nat) : sIx n d (some (k : Int)) = min k n := by
  show (if (k : Int) < 0 then ((k : Int) + (n : Int)).toNat else min (k : Int).toNat n) = min k n
  rw [if_neg (by omega), Int.toNat_natCast]
end
end HT
namespace L2
open PySem PySem.Spec PyProof.Rows
noncomputable abbrev TO := St → Hp → (Option Int → Hp → Prop) → Prop
noncomputable def PO (X : Cx) (e : Option Expr) (t : TO) : Prop :=
  ∀ (pins : List (Addr × Obj)) (s : Shared) (σ : St) (H : Hp) (Q : Option Int → Hp → Prop), Inv X pins σ H s → t σ H Q →
    wpAny (model X.prog X.w) X.A (evalPart e X.env) (fun u s' => ∃ o H', Inv X pins σ H' s' ∧ IsPart u o ∧ Q o H') X.xe s
noncomputable def ke : TO := fun _ H Q => Q none H
noncomputable def XU (t : TE) : TO := fun σ H Q => t σ H fun x H1 => ∃ i, x = .int i ∧ Q (some i) H1
section
variable {X : Cx} {e : Expr} {te : TE} {lo hi : Option Expr} {tl th : TO} {pos p2 : Pos}
theorem zM : PO X none ke := by
  intro pins s σ H Q I h
  rw [evalPart_none]
  exact wpAny_pure ⟨none, H, I, .none, h⟩
theorem zw (h : PE X e te) : PO X (some e) (XU te) := by
  intro pins s σ H Q I hw
  rw [evalPart_some]
  refine thn (h pins s σ H _ I hw) fun u s1 ⟨x, H1, I1, r1, q1⟩ => ?_
  obtain ⟨i, rfl, q⟩ := q1
  obtain ⟨t, rfl⟩ := r1
  exact ⟨some i, H1, I1, .int i t, q⟩
noncomputable def SlR (X : Cx) (r : V → Option Int → Option Int → Hp → VK → Prop) : Prop :=
  ∀ (pins : List (Addr × Obj)) (s : Shared) (σ : St) (H : Hp) (x : V) (v vl vu : Value) (lo hi : Option Int) (sl : Addr) (Q : VK), Inv X pins σ H s → RelV x v → s.heap.IsSliceOf sl vl vu .none → IsPart vl lo → IsPart vu hi → r x lo hi H Q →
    ∃ T id, typeLookup (.type T) "__getitem__" = pure (some (.builtin id)) ∧ s.TypeIs v T ∧ wpAny (model X.prog X.w) X.A (getItem v (.ref sl)) (EP X pins σ Q) X.xe s
theorem SlR.or {r r' : V → Option Int → Option Int → Hp → VK → Prop} (h : SlR X r) (h' : SlR X r') : SlR X (fun x lo hi H Q => r x lo hi H Q ∨ r' x lo hi H Q) := by
  intro pins s σ H x v vl vu lo hi sl Q I rx hs pl pu q
  rcases q with q | q
  · exact h pins s σ H x v vl vu lo hi sl Q I rx hs pl pu q
  · exact h' pins s σ H x v vl vu lo hi sl Q I rx hs pl pu q
noncomputable def tSl (r : V → Option Int → Option Int → Hp → VK → Prop) (te : TE) (tl th : TO) : TE := fun σ H Q => te σ H fun x H1 => tl σ H1 fun l H2 => th σ H2 fun u H3 => r x l u H3 Q
theorem zz {r : V → Option Int → Option Int → Hp → VK → Prop} (hr : SlR X r) (he : PE X e te) (hl : PO X lo tl) (hu : PO X hi th) : PE X (.Subscript e (.Slice lo hi none p2) pos) (tSl r te tl th) := by
  intro pins s σ H Q I h
  refine Subscript_ (thn (he pins s σ H _ I h) fun v s1 ⟨x, H1, I1, r1, q1⟩ => ?_)
  refine wpAny_Slice (thn (hl pins s1 σ H1 _ I1 q1) fun vl s2 ⟨l, H2, I2, pl, q2⟩ => thn (hu pins s2 σ H2 _ I2 q2) fun vu s3 ⟨u, H3, I3, pu, q3⟩ => ?_)
  rw [evalPart_none]
  refine wpAny_pure ?_
  have I4 : Inv X pins σ H3 { s3 with heap := s3.heap.push { cls := .type "slice", data := .fields #[vl, vu, .none] } } := I3.kept (t' := s3.toks) fun b ob q => Heap.get?_push_of_some _ q
  obtain ⟨T, id, hT, ht, hg⟩ := hr pins { s3 with heap := s3.heap.push { cls := .type "slice", data := .fields #[vl, vu, .none] } } σ H3 x v vl vu l u s3.heap.objs.size Q I4 r1 (Heap.IsSliceOf.new ..) pl pu q3
  show wpAny (model X.prog X.w) X.A (subscriptTail e (.Slice lo hi none p2) v (.ref s3.heap.objs.size)) (EP X pins σ Q) X.xe { s3 with heap := s3.heap.push { cls := .type "slice", data := .fields #[vl, vu, .none] } }
  exact tail_any (ops := [.ref s3.heap.objs.size, v]) ht hT hg (by with_unfolding_all rfl)
noncomputable def uF (xs : List V) (lo hi : Option Int) : List V := (xs.drop (HT.sIx xs.length 0 lo)).take (HT.sIx xs.length xs.length hi - HT.sIx xs.length 0 lo)
theorem jX (xs : List V) (lo hi : Option Int) : (uF xs lo hi).length ≤ xs.length := by
  unfold uF
  rw [List.length_take, List.length_drop]
  omega
end
end L2
namespace L2
open PySem PySem.Spec PyProof.Rows
noncomputable def ixN (n : Nat) (i : Int) : Option Nat := if 0 ≤ i then (if i < n then some i.toNat else none) else if -(n : Int) ≤ i then some (i + n).toNat else none
noncomputable def atI {α : Type} (xs : List α) (i : Int) : Option α := (ixN xs.length i).bind fun j => xs[j]?
theorem VG {n : Nat} {i : Int} {j : Nat} (h : ixN n i = some j) : seqIndex? i n = some j ∧ j < n ∧ -(n : Int) ≤ i ∧ i < n := by
  unfold ixN at h
  by_cases h0 : 0 ≤ i
  · rw [if_pos h0] at h
    by_cases h1 : i < n
    · rw [if_pos h1] at h
      have e : i.toNat = j := Option.some.inj h
      exact ⟨by rw [seqIndex_of h0 h1, e], by omega, by omega, h1⟩
    · rw [if_neg h1] at h; cases h
  · rw [if_neg h0] at h
    by_cases h1 : -(n : Int) ≤ i
    · rw [if_pos h1] at h
      have e : (i + n).toNat = j := Option.some.inj h
      exact ⟨by rw [seqIndex_neg (by omega) h1, e], by omega, h1, by omega⟩
    · rw [if_neg h1] at h; cases h
theorem kf {α : Type} {xs : List α} {i : Int} {v : α} (h : atI xs i = some v) : ∃ j, seqIndex? i xs.length = some j ∧ xs[j]? = some v ∧ j < xs.length ∧ -(xs.length : Int) ≤ i ∧ i < xs.length := by
  unfold atI at h
  cases e : ixN xs.length i with
  | none => rw [e] at h; cases h
  | some j =>
    rw [e] at h
    obtain ⟨h1, h2, h3, h4⟩ := VG e
    exact ⟨j, h1, h, h2, h3, h4⟩
theorem y6 {α : Type} {xs : List α} {j : Nat} {v : α} (h : xs[j]? = some v) : atI xs (j : Int) = some v := by
  have hj : j < xs.length := (List.getElem?_eq_some_iff.mp h).1
  have e : ixN xs.length (j : Int) = some j := by
    unfold ixN
    rw [if_pos (by omega), if_pos (by omega)]; simp
  unfold atI; rw [e]; exact h
noncomputable def VH (b : Expr) : Prop := ∀ o i, subscripted b false o i = operate [o, i] (getItem o i)
noncomputable def IxR (X : Cx) (r : R2) : Prop :=
  ∀ (value slice : Expr) (pins : List (Addr × Obj)) (s : Shared) (σ : St) (H : Hp) (x y : V) (v u : Value) (Q : VK), Inv X pins σ H s → RelV x v → RelV y u → r x y H Q →
    subscripted slice false v u = operate [v, u] (getItem v u) → wpAny (model X.prog X.w) X.A (subscriptTail value slice v u) (EP X pins σ Q) X.xe s
noncomputable def MtR (X : Cx) (id : String) (r : V → List V → Hp → VK → Prop) : Prop :=
  ∀ (pins : List (Addr × Obj)) (s : Shared) (σ : St) (H : Hp) (x : V) (xs : List V) (v : Value) (us : List Value) (Q : VK), Inv X pins σ H s → RelV x v → Vals xs us → r x xs H Q →
    wpAny (model X.prog X.w) X.A (call (.builtin id) (v :: us)) (EP X pins σ Q) X.xe s
section
variable {X : Cx} {a b : Expr} {ta tb : TE} {pos : Pos}
theorem IxR.or {r r' : R2} (h : IxR X r) (h' : IxR X r') : IxR X (fun x y H Q => r x y H Q ∨ r' x y H Q) := by
  intro value slice pins s σ H x y v u Q I rx ry q hs
  rcases q with q | q
  · exact h value slice pins s σ H x y v u Q I rx ry q hs
  · exact h' value slice pins s σ H x y v u Q I rx ry q hs
theorem MtR.or {id : String} {r r' : V → List V → Hp → VK → Prop} (h : MtR X id r) (h' : MtR X id r') : MtR X id (fun x xs H Q => r x xs H Q ∨ r' x xs H Q) := by
  intro pins s σ H x xs v us Q I rx rs q
  rcases q with q | q
  · exact h pins s σ H x xs v us Q I rx rs q
  · exact h' pins s σ H x xs v us Q I rx rs q
theorem yy {r : R2} (hr : IxR X r) (ha : PE X a ta) (hb : PE X b tb) (hs : VH b) : PE X (.Subscript a b pos) (tOp r ta tb) := by
  intro pins s σ H Q I h
  exact Subscript_ (YL ha hb I h fun v u s2 x y H2 I2 rx ry q => hr a b pins s2 σ H2 x y v u Q I2 rx ry q (hs _ _))
noncomputable def jd (K : PySem.W.Frag) : R2 := fun x y H Q => ∃ p xs i v, x = .ref p ∧ y = .int i ∧ SqL K H p xs ∧ atI xs i = some v ∧ Q v H
noncomputable def UW : R2 := fun x y H Q => ∃ z i c, x = .str z ∧ y = .int i ∧ z.length ≤ sizeLine ∧ atI z.cps.toList i = some c ∧ Q (.str ⟨#[c]⟩) H
theorem VI : IxR X (jd X.K) := by
  intro value slice pins s σ H x y v u Q I rx ry h hs
  obtain ⟨p, xs, i, z, rfl, rfl, hq, he, q⟩ := h
  cases rx
  obtain ⟨t, rfl⟩ := ry
  obtain ⟨its, r, pl, hz⟩ := I.list hq
  obtain ⟨j, h1, h2, h3, h4, h5⟩ := kf he
  obtain ⟨w, ew, rw'⟩ := r.get h2
  have hl := r.length
  have hn := x9
  have fin : EP X pins σ Q w s := ⟨z, H, I, rw', q⟩
  by_cases h0 : 0 ≤ i
  · have hj : i.toNat = j := by
      rw [seqIndex_of h0 h5] at h1
      exact Option.some.inj h1
    exact item_listR pl.isList h0 (by omega) (by rw [hj]; simpa using ew) fin hs
  · have hj : (i + (its.toArray.size : Int)).toNat = j := by
      rw [seqIndex_neg (by omega) h4] at h1
      rw [List.size_toArray, ← hl]
      exact Option.some.inj h1
    exact subscriptTail_builtinR (x := w) pl.isList.typeIs slot_list_getitem.lookup
      (wpAny_getItem_list_neg (Q := fun r s' => r = w ∧ EP X pins σ Q r s') pl.isList (by omega) (by rw [List.size_toArray] <;> omega) (by omega) (by rw [hj]; simpa using ew) ⟨rfl, fin⟩) hs
theorem UX : IxR X UW := by
  intro value slice pins s σ H x y v u Q I rx ry h hs
  obtain ⟨z, i, c, rfl, rfl, hz, he, q⟩ := h
  obtain ⟨t, rfl⟩ := rx
  obtain ⟨t', rfl⟩ := ry
  obtain ⟨j, h1, h2, h3, h4, h5⟩ := kf he
  have hl : z.cps.toList.length = z.length := by simp [Str.length]
  rw [hl] at h1 h4 h5
  have hn := x9
  exact tail_any (typeIs_str s z t) slot_str_getitem.lookup (getItem_str (c := c) (by
    have e1 : decide (i < -(2 ^ 63 : Int)) = false := decide_eq_false (by omega)
    have e2 : decide (i ≥ 2 ^ 63) = false := decide_eq_false (by omega)
    rw [e1, e2, Bool.or_false]) (by rw [h1]; simpa using h2) ⟨.str ⟨#[c]⟩, H, I.tok _, ⟨_, rfl⟩, q⟩) hs
theorem Inv.lst {pins : List (Addr × Obj)} {σ : St} {H : Hp} {s : Shared} {p : Addr} {xs : List V} (I : Inv X pins σ H s) (h : H p = some (.lst xs)) :
    ∃ (its : List Value) (n : Nat), Vals xs its ∧ s.heap.get? p = some { cls := .type "list", data := .seq its.toArray n } ∧ xs.length ≤ sizeLine := by
  obtain ⟨z, its, n, r, e⟩ := I.hok p _ h
  exact ⟨its, n, r, e, z⟩
theorem je (lo hi : Option Int) (n : Nat) : (sliceBounds lo hi none n).1 = ((HT.sIx n 0 lo : Nat) : Int) ∧ (sliceBounds lo hi none n).2.1 = ((HT.sIx n n hi : Nat) : Int) ∧ (sliceBounds lo hi none n).2.2 = 1 := by
  refine ⟨?_, ?_, rfl⟩
  · cases lo with
    | none => simp [sliceBounds, HT.sIx]
    | some i =>
      simp only [sliceBounds, HT.sIx, Option.getD_none, show (1 : Int) > 0 by decide, if_true]
      by_cases h : i < 0
      · simp only [h, if_true] <;> omega
      · simp only [h, if_false] <;> omega
  · cases hi with
    | none => simp [sliceBounds, HT.sIx]
    | some i =>
      simp only [sliceBounds, HT.sIx, Option.getD_none, show (1 : Int) > 0 by decide, if_true]
      by_cases h : i < 0
      · simp only [h, if_true] <;> omega
      · simp only [h, if_false] <;> omega
theorem qF (its : List Value) (lo hi : Option Int) : slicePick its.toArray lo hi none = ((its.drop (HT.sIx its.length 0 lo)).take (HT.sIx its.length its.length hi - HT.sIx its.length 0 lo)).toArray := by
  obtain ⟨h1, h2, h3⟩ := je lo hi its.toArray.size
  unfold slicePick
  rw [h1, h2, h3]
  simp only [sliceRange_one, pick_run, List.size_toArray] <;> rfl
noncomputable def YO (K : PySem.W.Frag) : V → Option Int → Option Int → Hp → VK → Prop := fun x lo hi H Q => ∃ a xs, x = .ref a ∧ SqL K H a xs ∧ ∀ p, H p = none → Q (.ref p) (upd H p (.lst (uF xs lo hi)))
theorem VJ : SlR X (YO X.K) := by
  intro pins s σ H x v vl vu lo hi sl Q I rx hs pl pu h
  obtain ⟨a, xs, rfl, hx, q⟩ := h
  cases rx
  obtain ⟨its, r, ht, hz⟩ := I.list hx
  have hlen := r.length
  refine ⟨"list", _, slot_list_getitem.lookup, ht.isList.typeIs, ?_⟩
  refine wpAny_getItem_list_slice ht.isList hs pl pu .none (by simp) ?_ (by rw [List.size_toArray] <;> omega)
  rw [qF, ← hlen]
  refine ⟨.ref s.heap.objs.size, _, I.laid (t' := s.toks) (o := .lst (uF xs lo hi)) (fun b ob q => Heap.get?_push_of_some _ q) (Nat.le_refl _) ?_, rfl, q _ (I.hok.fresh (Nat.le_refl _))⟩
  exact ⟨Nat.le_trans (jX xs lo hi) hz, _, 0, (r.drop (HT.sIx xs.length 0 lo)).take (HT.sIx xs.length xs.length hi - HT.sIx xs.length 0 lo), Heap.get?_push_size _ rfl⟩
noncomputable def yX : V → Bool
  | .non => true
  | .bl _ => true
  | .int _ => true
  | .str _ => true
  | _ => false
noncomputable def eqV : V → V → Bool
  | .non, .non => true
  | .bl a, .bl b => a == b
  | .bl a, .int b => (if a then 1 else 0) == b
  | .int a, .bl b => a == (if b then 1 else 0)
  | .int a, .int b => a == b
  | .str a, .str b => a == b
  | _, _ => false
theorem UY {A : Around} {s : Shared} {y x : V} {u v : Value} (ry : RelV y u) (rx : RelV x v) (fy : yX y = true) (fx : yX x = true) : SeqAt.EqAt A s u v (eqV y x) := by
  cases y with
  | non =>
    cases ry
    cases x with
    | non => cases rx; exact SeqAt.EqAt.same _
    | bl b => cases rx; exact SeqAt.EqAt.none_bool b
    | int b => obtain ⟨t, rfl⟩ := rx; exact SeqAt.EqAt.none_int b t
    | str b => obtain ⟨t, rfl⟩ := rx; exact SeqAt.EqAt.none_str b t
    | _ => exact absurd (show false = true from fx) Bool.false_ne_true
  | bl a =>
    cases ry
    cases x with
    | non => cases rx; exact SeqAt.EqAt.bool_none a
    | bl b => cases rx; exact SeqAt.EqAt.bool_bool a b
    | int b => obtain ⟨t, rfl⟩ := rx; exact SeqAt.EqAt.bool_int a b t
    | str b => obtain ⟨t, rfl⟩ := rx; exact SeqAt.EqAt.bool_str a b t
    | _ => exact absurd (show false = true from fx) Bool.false_ne_true
  | int a =>
    obtain ⟨t', rfl⟩ := ry
    cases x with
    | non => cases rx; exact SeqAt.EqAt.int_none a t'
    | bl b => cases rx; exact SeqAt.EqAt.int_bool a t' b
    | int b => obtain ⟨t, rfl⟩ := rx; exact SeqAt.EqAt.int_int a t' b t
    | str b => obtain ⟨t, rfl⟩ := rx; exact SeqAt.EqAt.int_str a t' b t
    | _ => exact absurd (show false = true from fx) Bool.false_ne_true
  | str a =>
    obtain ⟨t', rfl⟩ := ry
    cases x with
    | non => cases rx; exact SeqAt.EqAt.str_none a t'
    | bl b => cases rx; exact SeqAt.EqAt.str_bool a t' b
    | int b => obtain ⟨t, rfl⟩ := rx; exact SeqAt.EqAt.str_int a t' b t
    | str b => obtain ⟨t, rfl⟩ := rx; exact SeqAt.EqAt.str_str a t' b t
    | _ => exact absurd (show false = true from fx) Bool.false_ne_true
  | _ => exact absurd (show false = true from fy) Bool.false_ne_true
noncomputable def eqU (x : V) (u : Value) : Bool := match u with
  | .none => eqV .non x
  | .bool b => eqV (.bl b) x
  | .int i _ => eqV (.int i) x
  | .str z _ => eqV (.str z) x
  | _ => false
theorem ZO {x y : V} {u : Value} (r : RelV y u) (f : yX y = true) : eqU x u = eqV y x := by
  cases y with
  | non => cases r; rfl
  | bl b => cases r; rfl
  | int i => obtain ⟨t, rfl⟩ := r; rfl
  | str z => obtain ⟨t, rfl⟩ := r; rfl
  | _ => exact absurd (show false = true from f) Bool.false_ne_true
theorem xI {x : V} : ∀ {xs : List V} {us : List Value}, Vals xs us → xs.all yX = true → us.any (eqU x) = xs.any fun y => eqV y x
  | _, _, .nil, _ => rfl
  | y :: xs, u :: us, .cons r t, f => by
    rw [List.all_cons, Bool.and_eq_true] at f
    rw [List.any_cons, List.any_cons, ZO r f.1, xI t f.2]
theorem xf {A : Around} {s : Shared} {x : V} {v : Value} (rx : RelV x v) (fx : yX x = true) : ∀ {xs : List V} {us : List Value}, Vals xs us → xs.all yX = true → ∀ u ∈ us, SeqAt.EqAt A s u v (eqU x u)
  | _, _, .nil, _ => fun u hu => by cases hu
  | y :: xs, u :: us, .cons r t, f => fun u' hu => by
    rw [List.all_cons, Bool.and_eq_true] at f
    rcases List.mem_cons.mp hu with rfl | hu
    · rw [ZO r f.1]; exact UY r rx f.1 fx
    · exact xf rx fx t f.2 u' hu
noncomputable def inV (x : V) (xs : List V) : Bool := xs.any fun y => eqV y x
noncomputable def rIn (K : PySem.W.Frag) (neg : Bool) : R2 := fun x y H Q => ∃ p xs, y = .ref p ∧ (SqL K H p xs ∨ SqT K H p xs) ∧ yX x = true ∧ xs.all yX = true ∧ Q (.bl (if neg then !inV x xs else inV x xs)) H
theorem ZP : OpR X (compareOp .In) (rIn X.K false) := by
  intro pins s σ H x y v u Q I rx ry h
  obtain ⟨p, xs, rfl, hq, fx, fs, q⟩ := h
  cases ry
  rcases hq with hq | hq
  · obtain ⟨its, r, pl, hz⟩ := I.list hq
    refine SeqAt.in_listAt (eqU x) pl.isList (fun w hw => xf rx fx r fs w (by simpa using hw)) ⟨.bl _, H, I, rfl, ?_⟩
    rw [show its.toArray.any (eqU x) = its.any (eqU x) by simp, xI r fs]
    exact q
  · obtain ⟨its, r, pl, hz⟩ := I.tuple hq
    refine SeqAt.in_tupleAt (eqU x) pl (fun w hw => xf rx fx r fs w (by simpa using hw)) ⟨.bl _, H, I, rfl, ?_⟩
    rw [show its.toArray.any (eqU x) = its.any (eqU x) by simp, xI r fs]
    exact q
theorem jf : OpR X (compareOp .NotIn) (rIn X.K true) := by
  intro pins s σ H x y v u Q I rx ry h
  obtain ⟨p, xs, rfl, hq, fx, fs, q⟩ := h
  cases ry
  rcases hq with hq | hq
  · obtain ⟨its, r, pl, hz⟩ := I.list hq
    refine SeqAt.notIn_listAt (eqU x) pl.isList (fun w hw => xf rx fx r fs w (by simpa using hw)) ⟨.bl _, H, I, rfl, ?_⟩
    rw [show its.toArray.any (eqU x) = its.any (eqU x) by simp, xI r fs]
    exact q
  · obtain ⟨its, r, pl, hz⟩ := I.tuple hq
    refine SeqAt.notIn_tupleAt (eqU x) pl (fun w hw => xf rx fx r fs w (by simpa using hw)) ⟨.bl _, H, I, rfl, ?_⟩
    rw [show its.toArray.any (eqU x) = its.any (eqU x) by simp, xI r fs]
    exact q
theorem jg : zN X (.builtin "len") (fun xs H Q => ∃ p ys, xs = [.ref p] ∧ (SqL X.K H p ys ∨ SqT X.K H p ys) ∧ Q (.int ys.length) H) := by
  intro pins s σ H xs us Q I r h
  obtain ⟨p, ys, rfl, hq, q⟩ := h
  obtain ⟨u, rfl, rx⟩ := yW r
  cases rx
  have hn := x9
  rcases hq with hq | hq
  · obtain ⟨its, r', pl, hz⟩ := I.list hq
    have hlen := r'.length
    exact Calls.call_len_list pl.isList (by simp only [List.size_toArray] <;> omega) ⟨.int ys.length, H, I.tok _, ⟨s.toks + 1, by rw [List.size_toArray, hlen]⟩, q⟩
  · obtain ⟨its, r', pl, hz⟩ := I.tuple hq
    have hlen := r'.length
    exact len_tuple pl (by simp only [List.size_toArray] <;> omega) ⟨.int ys.length, H, I.tok _, ⟨s.toks + 1, by rw [List.size_toArray, hlen]⟩, q⟩
theorem jh : zN X (.builtin "len") (fun xs H Q => ∃ z, xs = [.str z] ∧ z.length ≤ sizeLine ∧ Q (.int z.length) H) := by
  intro pins s σ H xs us Q I r h
  obtain ⟨z, rfl, hz, q⟩ := h
  obtain ⟨u, rfl, t, rfl⟩ := yW r
  have hn := x9
  exact len_str (by omega) ⟨.int z.length, H, I.tok _, ⟨_, rfl⟩, q⟩
theorem zN.or {f : Value} {r r' : List V → Hp → VK → Prop} (h : zN X f r) (h' : zN X f r') : zN X f (fun xs H Q => r xs H Q ∨ r' xs H Q) := by
  intro pins s σ H xs us Q I rs q
  rcases q with q | q
  · exact h pins s σ H xs us Q I rs q
  · exact h' pins s σ H xs us Q I rs q
theorem qG : zN X (.type "tuple") (fun xs H Q => ∃ p ys, xs = [.ref p] ∧ ((SqL X.K H p ys ∧ ∀ l, H l = none → Q (.ref l) (upd H l (.tup ys))) ∨ (SqT X.K H p ys ∧ Q (.ref p) H))) := by
  intro pins s σ H xs us Q I r h
  obtain ⟨p, ys, rfl, h⟩ := h
  obtain ⟨u, rfl, rx⟩ := yW r
  cases rx
  rcases h with ⟨hq, q⟩ | ⟨hq, q⟩
  · obtain ⟨its, r', pl, hz⟩ := I.list hq
    have hlen := r'.length
    refine call_tuple_list pl.isList (fun h' kp => ?_) (by simp only [List.size_toArray] <;> omega)
    have I1 : Inv X pins σ H { s with heap := h' } := I.kept (t' := s.toks) kp
    have I2 : Inv X pins σ (upd H h'.objs.size (.tup ys)) { s with heap := h'.push { cls := .type "tuple", data := .seq its.toArray } } :=
      I1.laid (t' := s.toks) (fun b o e => Heap.get?_push_of_some _ e) (Nat.le_refl _) (show zI X.prog X.w _ _ _ (.tup ys) from ⟨hz, its, r', IsTup.new _ _⟩)
    exact ⟨.ref h'.objs.size, _, I2, rfl, q _ (I1.hok.fresh (Nat.le_refl _))⟩
  · obtain ⟨its, r', pl, hz⟩ := I.tuple hq
    exact call_tuple_same pl ⟨.ref p, H, I, rfl, q⟩
noncomputable def tyV (K : PySem.W.Frag) (T : String) (x : V) (H : Hp) : Prop := match x with
  | .str _ => T = "str"
  | .int _ => T = "int"
  | .ref p => (T = "list" ∧ ∃ xs, SqL K H p xs) ∨ (T = "tuple" ∧ ∃ o, K.lookup p = some o ∧ o.cls = .type "tuple" ∧ o.dict = none) ∨
      (T = "dict" ∧ ((∃ kvs, H p = some (.dK kvs)) ∨ ∃ kvs, H p = some (.dT kvs))) ∨ (T = "set" ∧ ∃ S n, H p = some (.set S n))
  | _ => False
theorem UZ {pins : List (Addr × Obj)} {σ : St} {H : Hp} {s : Shared} {T : String} {x : V} {v : Value} (I : Inv X pins σ H s) (r : RelV x v) (ty : tyV X.K T x H) :
    s.TypeIs v T ∧ ∀ a, v = .ref a → ∃ ob, s.heap.get? a = some ob ∧ ob.dict = none := by
  cases x with
  | str z =>
    obtain ⟨t, rfl⟩ := r
    cases (show T = "str" from ty)
    exact ⟨typeIs_str s z t, fun _ e => nomatch e⟩
  | int i =>
    obtain ⟨t, rfl⟩ := r
    cases (show T = "int" from ty)
    exact ⟨typeIs_int s i t, fun _ e => nomatch e⟩
  | ref p =>
    cases r
    rcases ty with ⟨rfl, xs, hq⟩ | ⟨rfl, o, hk, hc, hd⟩ | ⟨rfl, hk⟩ | ⟨rfl, S, n, hk⟩
    · obtain ⟨its, _, pl, _⟩ := I.list hq
      refine ⟨pl.isList.typeIs, fun a e => ?_⟩
      cases e
      obtain ⟨o, n, e, c, hd, _⟩ := pl
      exact ⟨o, e, hd⟩
    · refine ⟨⟨o, I.kIn p o hk, hc⟩, fun a e => ?_⟩
      cases e
      exact ⟨o, I.kIn _ o hk, hd⟩
    · have z : ∃ o, s.heap.get? p = some o ∧ o.ExactDict := by
        rcases hk with ⟨kvs, hk⟩ | ⟨kvs, hk⟩
        · obtain ⟨_, _, _, _, o, _, _, e, ex, _⟩ := I.hok p _ hk
          exact ⟨o, e, ex⟩
        · obtain ⟨_, _, _, _, o, _, _, e, ex, _⟩ := I.hok p _ hk
          exact ⟨o, e, ex⟩
      obtain ⟨o, e, ex⟩ := z
      refine ⟨⟨o, e, ex.1⟩, fun a e2 => ?_⟩
      cases e2
      exact ⟨o, e, ex.2.1⟩
    · obtain ⟨o, _, _, _, e, ex, _⟩ := I.hok p _ hk
      refine ⟨⟨o, e, ex.1⟩, fun a e2 => ?_⟩
      cases e2
      exact ⟨o, e, ex.2.1⟩
  | _ => exact False.elim ty
noncomputable def tBM (K : PySem.W.Frag) (T : String) (r : V → List V → Hp → VK → Prop) (to : TE) (t : TA) : TE := fun σ H Q => to σ H fun x H1 => tyV K T x H1 ∧ t σ H1 fun xs H2 => r x xs H2 Q
variable {o e : Expr} {es : List Expr} {to : TE} {t : TA} {name : Str} {apos cpos : Pos} {T id : String} {r : V → List V → Hp → VK → Prop}
theorem k7 (pa : PlainAttrs T) (slot : Slot T name id) (hty : typeOf (.builtin id) = pure (.type "method_descriptor")) (hm : MtR X id r) (ho : PE X o to) (ha : PA X (e :: es) t)
    (hbase : attributeBase o name X.env (eval o X.env) = eval o X.env := by rfl)
    (hfew : ((backTo cpos (starEach (e :: es) X.env)).all (fun x => !x.1) && (backToKw cpos (keywordEach [] X.env)).all (fun x => x.1.isSome)
      && decide ((e :: es).length + ([] : List Keyword).length + (if ([] : List Keyword).isEmpty then 0 else 1) < 30)) = true := by rfl)
    (hline : (apos.endLine == cpos.line) = true := by rfl) (hs : starEach (e :: es) X.env = (false, eval e X.env) :: starEach es X.env := by rfl) (hplain : (backTo cpos (starEach es X.env)).any (·.1) = false := by rfl) :
    PE X (.Call (.Attribute o name apos) (e :: es) [] cpos) (tBM X.K T r to t) := by
  intro pins s σ H Q I h
  refine wpAny_Call_method_late hbase hfew hline rfl (thn (ho pins s σ H _ I h) fun v s1 ⟨x, H1, I1, r1, ty, q1⟩ => ?_)
  obtain ⟨h1, h2⟩ := UZ I1 r1 ty
  refine ⟨T, id, pa, slot, hty, h1, h2, ?_⟩
  have hA := ha cpos pins s1 σ H1 _ I1 q1
  rw [hs] at hA ⊢
  refine Calls.callWith_builtin (by show (false || (backTo cpos (starEach es X.env)).any (·.1)) = false; rw [hplain] <;> rfl) (Calls.evalArgs_plain ?_)
  exact thn hA fun us s2 ⟨vs, H2, I2, r2, q2⟩ => hm pins s2 σ H2 x vs v us Q I2 r1 r2 q2
end
end L2
namespace L2
open PySem PySem.Spec PyProof.Rows
noncomputable def MtM (X : Cx) (id : String) (r : V → List V → Hp → VK → Prop) : Prop :=
  ∀ (pins : List (Addr × Obj)) (s : Shared) (σ : St) (H : Hp) (x : V) (xs : List V) (v : Value) (us : List Value) (Q : VK), Inv X pins σ H s → RelV x v → Vals xs us → r x xs H Q →
    wpAny (model X.prog X.w) X.A (call (.builtin id) (v :: us)) (EP X pins σ Q) X.xe s
theorem Vals.one : ∀ {x : V} {us : List Value}, Vals [x] us → ∃ u, us = [u] ∧ RelV x u
  | _, _, .cons r .nil => ⟨_, rfl, r⟩
theorem Vals.two : ∀ {x y : V} {us : List Value}, Vals [x, y] us → ∃ u v, us = [u, v] ∧ RelV x u ∧ RelV y v
  | _, _, _, .cons r (.cons q .nil) => ⟨_, _, rfl, r, q⟩
theorem Vals.zero : ∀ {us : List Value}, Vals [] us → us = []
  | _, .nil => rfl
theorem Vals.rep {xs : List V} {us : List Value} (h : Vals xs us) : ∀ k : Nat, Vals (List.replicate k xs).flatten (List.replicate k us).flatten
  | 0 => .nil
  | k + 1 => by
    rw [List.replicate_succ, List.replicate_succ, List.flatten_cons, List.flatten_cons]
    exact Vals.append h (Vals.rep h k)
theorem qo (its : List Value) : ∀ (k : Nat) (acc : List Value),
    List.foldl (fun x1 x2 => x1 ++ x2) acc.toArray (List.replicate k its.toArray) = (acc ++ (List.replicate k its).flatten).toArray
  | 0, acc => by simp
  | k + 1, acc => by
    have e : acc.toArray ++ its.toArray = (acc ++ its).toArray := by simp
    have e2 : (acc ++ its) ++ (List.replicate k its).flatten = acc ++ (List.replicate (k + 1) its).flatten := by
      rw [List.replicate_succ, List.flatten_cons, List.append_assoc]
    rw [← e2, ← qo its k (acc ++ its), ← e, List.replicate_succ, List.foldl_cons]
section
variable {X : Cx} {pins : List (Addr × Obj)} {σ : St} {H : Hp} {s : Shared} {l b : Addr} {xs ys zs : List V}
theorem Inv.lset {its its' : List Value} {n : Nat} {f : Array Value → Array Value} {t' : Nat} (I : Inv X pins σ H s) (hH : H l = some (.lst xs))
    (e : s.heap.get? l = some { cls := .type "list", data := .seq its.toArray n }) (hf : f its.toArray = its'.toArray) (hv : Vals ys its') (hz : ys.length ≤ sizeLine) :
    Inv X pins σ (upd H l (.lst ys)) { s with heap := s.heap.update l (Obj.mapSeq f), toks := t' } := by
  have q := PySem.IsL.update e f
  rw [hf] at q
  refine I.write (x := l) (e := l) (by rw [hH]; exact trivial) (.inl rfl) (fun b' u hb hu => (Heap.get?_update_other s.heap (Obj.mapSeq f) (Ne.symm hb)).trans hu) ⟨_, q⟩ ?_
  exact ⟨hz, its', _, hv, q⟩
theorem Inv.lnew {its : List Value} {t' : Nat} (I : Inv X pins σ H s) (hv : Vals ys its) (hz : ys.length ≤ sizeLine) :
    Inv X pins σ (upd H s.heap.objs.size (.lst ys)) { s with heap := s.heap.push { cls := .type "list", data := .seq its.toArray }, toks := t' } :=
  I.laid (fun _ _ q => Heap.get?_push_of_some _ q) (Nat.le_refl _) ⟨hz, its, 0, hv, Heap.get?_push_size _ rfl⟩
theorem Inv.fresh (I : Inv X pins σ H s) : H s.heap.objs.size = none := I.hok.fresh (Nat.le_refl _)
theorem Inv.lstM (I : Inv X pins σ H s) (hH : H l = some (.lst xs)) : xs.length ≤ sizeLine ∧ ∃ (its : List Value) (n : Nat), Vals xs its ∧ xs.length = its.length ∧ s.heap.get? l = some { cls := .type "list", data := .seq its.toArray n } := by
  obtain ⟨z, its, n, r, e⟩ := I.hok l _ hH
  exact ⟨z, its, n, r, r.length, e⟩
theorem YQ {n : Nat} (h : n ≤ sizeLine) : Builtin.List.listTooLong n = false := by
  unfold Builtin.List.listTooLong
  exact decide_eq_false (by omega)
end
section
variable {X : Cx}
noncomputable def uG : V → List V → Hp → VK → Prop := fun x vs H Q => ∃ l xs y, x = .ref l ∧ vs = [y] ∧ H l = some (.lst xs) ∧ xs.length < sizeLine ∧ Q .non (upd H l (.lst (xs ++ [y])))
theorem yt : MtM X "list.append" uG := by
  intro pins s σ H x vs v us Q I rx rv h
  obtain ⟨l, xs, y, rfl, rfl, hH, hz, q⟩ := h
  cases rx
  obtain ⟨u, rfl, ru⟩ := rv.one
  obtain ⟨z, its, n, r, hl, e⟩ := I.lstM hH
  refine call_meets F.slot_list_append ⟨_, e, rfl⟩ F.entry_list_append (F.args_list_append_2 _ _) (PySem.list_append l its.toArray n u (by rw [List.size_toArray]; omega)) ⟨e, ?_⟩
  refine ⟨.non, _, I.lset (its' := its ++ [u]) hH e (by simp) (r.append (.cons ru .nil)) ?_, rfl, q⟩
  rw [List.length_append, List.length_singleton]
  omega
theorem VL {α : Type} (xs : List α) (k : Nat) : (List.replicate k xs).flatten.length = k * xs.length := by
  induction k with
  | zero => simp
  | succ k ih => rw [List.replicate_succ, List.flatten_cons, List.length_append, ih, Nat.succ_mul, Nat.add_comm]
end
section
variable {prog : Program} {w : World} {A : Around} {E : Value → Shared → Prop} {s : Shared}
end
section
variable {X : Cx}
end
end L2
namespace Att
open PySem PySem.W PySem.Calls PyProof.Rows
theorem v0 {P : Params} {h : Heap} : ∀ (ns : List Int) (vs : List Value), WellAll P h vs (ns.map WData.int) → IntsAre vs ns := by
  intro ns
  induction ns with
  | nil =>
    intro vs w
    rw [List.map_nil] at w
    cases w
    exact .nil
  | cons n ns ih =>
    intro vs w
    rw [List.map_cons] at w
    cases w with
    | cons a b =>
      cases a
      exact .cons _ _ (ih _ b)
theorem ZQ {l : OpenLaw} {n : Nat} (hn : l.most = some n) {P : Params} {h : Heap} {args : List WData} {vals : List Value}
    (hpre : l.row.toRowW.claim.pre args = true) (hwl : WellAll P h vals args) :
    ∃ a vs ns, vals = [Value.ref a] ∧ args = [WData.list (ns.map WData.int)] ∧ h.get? a = some { cls := .type "list", data := .seq vs.toArray } ∧ IntsAre vs ns ∧ ns.length ≤ n := by
  have hsh : WShape.hasAll [] args [.list .int] = true := (pre_splitW hpre).1
  have hc : l.pre.holds [] { args := args } = true := (pre_splitW hpre).2
  obtain ⟨d, r, rfl, h1, h2⟩ := hasAllW_cons hsh
  obtain rfl := hasAllW_nil h2
  obtain ⟨xs, rfl, h3⟩ := hasW_list h1
  obtain ⟨ns, rfl⟩ := items_int h3
  have hlen : ns.length ≤ n := by
    unfold OpenLaw.pre at hc
    have h4 : (WTm.not (.lt (.lit (.int (n : Int))) (.len (.arg 0)))).holds [] { args := [.list (ns.map .int)] } = true := by
      have h4 := (holds_andW hc).1
      rw [hn] at h4
      exact h4
    have h5 := condW_of h4 (w_not (w_lt w_lit (w_len_list (w_arg rfl))))
    rw [List.length_map] at h5
    refine Nat.le_of_not_lt fun q => ?_
    have q' : (n : Int) < ((ns.length : Nat) : Int) := by omega
    first
      | (rw [decide_eq_true q'] at h5; exact absurd h5 (by decide))
      | (simp at h5; omega)
  cases hwl with
  | cons w1 w2 =>
    cases w2
    cases w1 with
    | list ho hall => exact ⟨_, _, ns, rfl, rfl, ho, v0 ns _ hall, hlen⟩
theorem ZR (l : OpenLaw) (args : List WData) : l.row.toRowW.claim.post args (.bool true) args = true :=
  postW_of (r := l.row.toRowW) (X := (true == true))
    (show WShape.has [] (.bool true) .bool = true by first | rfl | decide | simp [WShape.has, WShape.arms, WShape.armsAll])
    (show (WTm.eq .res (.lit (.bool true))).value [] { args := args, res := some (.bool true), after := args } = some (.bool (true == true)) from w_eq_bool (w_res rfl) w_lit) rfl
section
variable {prog : Program} {w : World} {A : Around} {E : Value → Shared → Prop} {s : Shared} {K : Frag}
noncomputable def JK (h : Heap) (L d : Addr) : List (Addr × Obj) := (List.range h.objs.size).filterMap fun a => if a = L ∨ a = d then none else (h.get? a).map fun o => (a, o)
end
end Att
namespace L2
open PySem PySem.Spec PyProof.Rows
theorem qp : ∀ {vs : List Value} {ns : List Int}, IntsAre vs ns → Vals (ns.map V.int) vs
  | _, _, .nil => .nil
  | _, _, .cons n t h => .cons ⟨t, rfl⟩ (qp h)
noncomputable def U0 (H : Hp) : Prop := ∀ b, H b = none ∨ ∃ o xs, H b = some (.frz o (.lst xs))
theorem YR {P : Program} {w : World} {K : PySem.W.Frag} {mg mb : Str → Option Value} {CX : CXT} {k : Nat} {fa a : Addr} {fd : FuncData} {x : Str} {sp : Sp} {s₁ : Shared} {vs : List Value} {ns : List Int}
    (KX : K.In s₁.heap) (hns : s₁.heap.Ns mainGlobals mg) (hb : s₁.heap.Ns builtinsNs mb) (hbb : ∀ x : Str, x ≠ "__name__" → mb x = bootBuiltins x) (hlim : s₁.heap.NoLimit) (hg : s₁.gens = #[])
    (ha : s₁.heap.get? a = some { cls := .type "list", data := .seq vs.toArray }) (hi : IntsAre vs ns) (hl : ns.length ≤ sizeLine) (hr : Room k callerA)
    (F : ∀ base : Heap, K.In base → base.Ns mainGlobals mg → FnOk P w K mg base CX k fa fd [x] sp) (hbind : ∀ (s : Shared) (u : Value), BindsTo s fd ⟨[u], []⟩ [(x, u)])
    (hsp : ∀ H : Hp, U0 H → SqL K H a (ns.map V.int) → sp [.ref a] H (fun v _ => v = .bl true) fun _ _ _ => False)
    (hCX : ∀ H e s', CX [] H s₁ (fun _ _ _ => False) e s' → False) :
    codeAny (model P w) callerA (.call (.ref fa) ⟨[.ref a], []⟩) (fun r s' => r = .ok (.ret (.bool true)) ∧ OldK s₁.heap s'.heap ∧ s'.os = s₁.os ∧ AllBare s'.gens) s₁ := by
  have rv := qp hi
  have lenV := hi.length
  have core : ∀ H : Hp, U0 H → SqL K H a (ns.map V.int) → HOk P w H s₁.heap → (∀ b, H b ≠ none → b = a) → (H a ≠ none → K.lookup a = none) →
      codeAny (model P w) callerA (.call (.ref fa) ⟨[.ref a], []⟩) (fun r s' => r = .ok (.ret (.bool true)) ∧ OldK s₁.heap s'.heap ∧ s'.os = s₁.os ∧ AllBare s'.gens) s₁ := by
    intro H hO hS hok hA hK
    have base_of : ∀ {b : Addr} {o : Obj}, s₁.heap.get? b = some o → H b = none → (xP s₁.heap H).get? b = some o := fun e n => YC e n
    have noA : ∀ {b : Addr} {o : Obj} {es : Array DictEntry} {ep : Nat}, s₁.heap.get? b = some o → o.data = .dict es ep → H b = none := fun {b o es ep} e d => by
      cases q : H b with
      | none => rfl
      | some u =>
        have e' : b = a := hA b (by rw [q]; simp)
        subst e'
        rw [ha] at e; cases e
        have d' : Data.seq vs.toArray _ = Data.dict es ep := d
        cases d'
    have nsK : ∀ {b : Addr} {m : Str → Option Value}, s₁.heap.Ns b m → (xP s₁.heap H).Ns b m := fun {b m} ⟨o, es, ep, e, d, r⟩ => ⟨o, es, ep, base_of e (noA e d), d, r⟩
    have hKb : K.In (xP s₁.heap H) := fun b o e => base_of (KX b o e) (by
      cases q : H b with
      | none => rfl
      | some u =>
        have e' : b = a := hA b (by rw [q]; simp)
        subst e'
        rw [hK (by rw [q]; simp)] at e; cases e)
    have hM : Mod K mg (xP s₁.heap H) := ⟨hKb, nsK hns, ⟨mb, nsK hb, hbb⟩, let ⟨mc, h1, h2⟩ := hlim; ⟨mc, nsK h1, h2⟩⟩
    have e0 : Env0 P w K mg (xP s₁.heap H) callerA [] s₁ H := ⟨rfl, hM, fun b o e => Vz e, Nat.le_of_eq (ZF _ _), trivial, fun b hb => absurd (show b ∈ ([] : List Addr) from hb) (by simp), hok, .of_eq hg⟩
    refine codeAny_mono ((F _ hKb (nsK hns)).run callerA [] s₁ H ⟨[.ref a], []⟩ [.ref a] [.ref a] _ _ hr e0 (hbind s₁ (.ref a)) (.cons rfl .nil) (hsp H hO hS)) fun r s' h => ?_
    cases r with
    | error e => exact (hCX H e s' h).elim
    | ok fl =>
      cases fl with
      | next => exact False.elim h
      | brk => exact False.elim h
      | cont => exact False.elim h
      | ret u =>
        obtain ⟨v, H', os, bare, un, hok', r', q⟩ := h
        have q' : v = .bl true := q
        subst q'
        obtain rfl : u = Value.bool true := r'
        refine ⟨rfl, OldK.of_keep fun b o e => ?_, os, bare⟩
        cases q : H b with
        | none => exact un.keep b o e q (by intro z; exact absurd (show b ∈ ([] : List Addr) from z) (by simp)) (by simp)
        | some u =>
          rcases hO b with z | ⟨ob, xs, z⟩
          · rw [q] at z; cases z
          · have z2 := un.frzs b ob _ z
            obtain ⟨e1, _⟩ := hok b _ z
            obtain ⟨e2, _⟩ := hok' b _ z2
            rw [e] at e1; cases e1
            exact e2
  cases hk : K.lookup a with
  | some o =>
    have e := KX a o hk
    rw [ha] at e
    cases e
    refine core (fun _ => none) (fun _ => .inl rfl) (.inr ⟨_, vs.toArray, _, hk, rfl, rfl, rfl, by rw [List.size_toArray, lenV]; exact hl, by simpa using rv⟩) (fun b u z => by have z' : (none : Option HO) = some u := z; cases z') (fun b z => absurd rfl z) fun z => absurd rfl z
  | none =>
    refine core (fun b => if b = a then some (.frz { cls := .type "list", data := .seq vs.toArray } (.lst (ns.map V.int))) else none) (fun b => ?_) (.inl (.inr ⟨{ cls := .type "list", data := .seq vs.toArray }, if_pos rfl⟩)) (fun b u z => ?_) (fun b z => ?_) fun _ => hk
    · by_cases hb : b = a
      · exact .inr ⟨_, _, if_pos hb⟩
      · exact .inl (if_neg hb)
    · by_cases hb : b = a
      · have z' := (if_pos hb).symm.trans z
        cases z'
        subst hb
        exact ⟨ha, by rw [List.length_map]; exact hl, vs, _, rv, ha⟩
      · have z' := (if_neg hb).symm.trans z
        cases z'
    · by_cases hb : b = a
      · exact hb
      · exact absurd (if_neg hb) z
end L2
namespace L2
open PySem PySem.Spec PyProof.Rows
end L2
namespace L2
open PySem PySem.Spec PyProof.Rows
noncomputable def defArgs (s : Stmt) : Arguments := match s with
  | .FunctionDef _ a _ _ _ _ _ _ _ _ => a
  | _ => { posonlyargs := [], args := [], vararg := none, kwonlyargs := [], kw_defaults := [], kwarg := none, defaults := [] }
noncomputable def defBody (s : Stmt) : List Stmt := match s with
  | .FunctionDef _ _ b _ _ _ _ _ _ _ => b
  | _ => []
noncomputable def defScope (s : Stmt) : Scope := match s with
  | .FunctionDef _ _ _ _ _ _ sc _ _ _ => sc
  | _ => { kind := .function, names := [], isGenerator := false, isCoroutine := false }
noncomputable abbrev CX0 : CXT := fun _ _ _ _ _ _ => False
noncomputable abbrev E0 : XK := fun _ _ _ => False
theorem XV {X : Cx} : xH CX0 X E0 := fun _ _ _ _ _ _ _ h => h.elim
structure Fun (K : PySem.W.Frag) (x qual : Str) (st : Stmt) (f : Addr) (fd : FuncData) : Prop where
  ex : ∃ (oc : Value) (od : Option Addr) (kV doc pm : Value) (an : Option Addr) (cdv ct : Value) (osl : Array (Option Value)),
    fd = PySem.W.fnOf x qual (defArgs st) (defBody st) (defScope st) .none kV doc pm an cdv ct ∧ K.lookup f = some ⟨oc, od, .func fd, osl⟩ ∧ PySem.W.codeIn K cdv qual = true
  kp : PySem.W.keepIn K (.ref f) = true
section
variable {P : Program} {w : World} {K : PySem.W.Frag} {mg : Str → Option Value} {base : Heap}
theorem Fun.ok {x qual : Str} {st : Stmt} {f : Addr} {fd : FuncData} {N ps : List Str} {k : Nat} {sp : Sp} (F : Fun K x qual st f fd) (S : FnScope N ps (defScope st)) (len : ∀ vs H Q E, sp vs H Q E → vs.length = ps.length)
    (hbody : ∀ (cdv : Value) (A : Around) (outer : List Env) (s : Shared) (H : Hp) (vs : List V) (Q : VK) (E : XK), Room k (A.deeper (envOfC qual (defScope st) s.heap.objs.size f cdv)) → sp vs H Q E →
      ∃ t, PSs (cxOf CX0 P w K mg base N qual (defScope st) f cdv A outer s H E).nox (defBody st) t ∧ t { nx := fun _ H' => Q .non H', rt := Q } (start N vs) H) : FnOk P w K mg base CX0 (k + 1) f fd ps sp := by
  obtain ⟨oc, od, kV, doc, pm, an, cdv, ct, osl, rfl, lk, hcd⟩ := F.ex
  refine qL lk hcd S len fun A outer s H vs Q E hr hsp => ?_
  obtain ⟨t, h, q⟩ := hbody cdv A outer s H vs Q E hr hsp
  exact ⟨t, h.nox, q⟩
theorem Fun.binds {x qual : Str} {st : Stmt} {f : Addr} {fd : FuncData} {ps : List Str} (F : Fun K x qual st f fd)
    (h : ∀ (kV doc pm : Value) (an : Option Addr) (cdv ct : Value) (us : List Value), us.length = ps.length → bindArgs (PySem.W.fnOf x qual (defArgs st) (defBody st) (defScope st) .none kV doc pm an cdv ct) ⟨us, []⟩ = pure (ps.zip us)) : Binds K fd ps [] := by
  obtain ⟨oc, od, kV, doc, pm, an, cdv, ct, osl, rfl, lk, hcd⟩ := F.ex
  exact .all (h kV doc pm an cdv ct)
theorem U1 {x qual : Str} {st : Stmt} {f : Addr} {oc : Value} {od an : Option Addr} {osl : Array (Option Value)} {kV doc pm cdv ct : Value} (l : K.lookup f = some ⟨oc, od, .func (PySem.W.fnOf x qual (defArgs st) (defBody st) (defScope st) .none kV doc pm an cdv ct), osl⟩)
    (c : PySem.W.codeIn K cdv qual = true) (k : PySem.W.keepIn K (.ref f) = true) : Fun K x qual st f (PySem.W.fnOf x qual (defArgs st) (defBody st) (defScope st) .none kV doc pm an cdv ct) := ⟨⟨oc, od, kV, doc, pm, an, cdv, ct, osl, rfl, l, c⟩, k⟩
end
theorem yQ {n : Nat} (h : n ≤ 1000) : n < sizeLine := Nat.lt_of_le_of_lt h (by decide)
section
variable {X : Cx}
theorem pv (i : Nat) {x : Str} {pos : Pos} (hN : X.N[i]? = some x := by rfl) (hv : Vis X.env.scope x := by first | exact Or.inl rfl | exact Or.inr (Or.inl rfl) | exact Or.inr (Or.inr rfl)) (hd : (x == ("__debug__" : Str)) = false := by decide)
    (hcd : (x == ("__classdict__" : Str)) = false := by decide) : PE X (.Name x pos) (uz i) := UH hN hv hd hcd
end
noncomputable def Same (H H' : Hp) : Prop := ∀ b o, H b = some o → H' b = some o
theorem Same.refl (H : Hp) : Same H H := fun _ _ h => h
theorem Same.trans {H H1 H2 : Hp} (a : Same H H1) (b : Same H1 H2) : Same H H2 := fun c o h => b c o (a c o h)
theorem Same.free {H H' : Hp} (e : Same H H') {l : Addr} (h : H' l = Option.none) : H l = Option.none := by
  cases q : H l with
  | none => rfl
  | some o =>
    rw [e l o q] at h
    cases h
theorem Same.seq {K : PySem.W.Frag} {H H' : Hp} {a : Addr} {xs : List V} (e : Same H H') (h : SqL K H a xs) : SqL K H' a xs := by
  rcases h with (h | ⟨o, h⟩) | h
  · exact .inl (.inl (e _ _ h))
  · exact .inl (.inr ⟨o, e _ _ h⟩)
  · exact .inr h
end L2
namespace L2
open PySem PySem.Spec PyProof.Rows
theorem VM {prog : Program} {w : World} {A : Around} {R : Result → Shared → Prop} {s : Shared} {elt tg iter : Expr} {ifs : List Expr} {scope : Scope} {pos : Pos} {it acc : Value} {env : Env} (J : Nat → Shared → Prop)
    (turn : ∀ k s0, J k s0 → wpAny (model prog w) A (pyNext it) (fun r s1 => match r with
      | none => R (.ok .next) s1
      | some v => wpAny (model prog w) A (letOwnedTupleGo tg it v) (fun _ s2 => wpAny (model prog w) A (assign tg env v) (fun _ s3 =>
          wpAny (model prog w) A (forIn ifs true fun c r => if r = true then do let ok ← isTrue c env (eval c env); pure (ForInStep.yield ok) else pure (ForInStep.yield r)) (fun ok s4 =>
            if ok = true then wpAny (model prog w) A (eval elt env) (fun x s5 => wpAny (model prog w) A (call (.builtin "list.append") [acc, x]) (fun _ s6 => ∃ j, j < k ∧ J j s6) (fun _ _ => False) s5) (fun _ _ => False) s4
            else ∃ j, j < k ∧ J j s4) (fun _ _ => False) s3) (fun _ _ => False) s2) (fun _ _ => False) s1) (fun _ _ => False) s0)
    (k : Nat) (h : J k s) : codeAny (model prog w) A (.compLoop (.ListComp elt [⟨tg, iter, ifs, 0⟩] scope pos) 0 it acc env) R s := by
  refine codeAny_loop rfl J (fun k0 s0 hJ => ?_) k h
  show wpAny _ A ((compTurn (.ListComp elt [⟨tg, iter, ifs, 0⟩] scope pos) 0 it acc env).onRaise (fun x => do noteFrame x env; theTreesLotGoes x)) _ _ s0
  refine wpAny_noted ?_
  rw [compTurn_list]
  refine wpAny_bind (wpAny_standAt (wpAny_bind (wpAny_mono (turn k0 s0 hJ) (fun r s1 h1 => ?_) fun _ _ f => f.elim)))
  cases r with
  | none => exact wpAny_pure h1
  | some v =>
    refine wpAny_bind (wpAny_mono h1 (fun _ s2 h2 => wpAny_bind (wpAny_mono h2 (fun _ s3 h3 => wpAny_bind (wpAny_mono h3 (fun ok s4 h4 => ?_) fun _ _ f => f.elim)) fun _ _ f => f.elim)) fun _ _ f => f.elim)
    cases ok with
    | false => exact wpAny_pure ⟨rfl, h4⟩
    | true => exact wpAny_bind (wpAny_bind (wpAny_mono h4 (fun x s5 h5 => wpAny_bind (wpAny_mono h5 (fun _ s6 h6 => wpAny_pure (wpAny_pure ⟨rfl, h6⟩)) fun _ _ f => f.elim)) fun _ _ f => f.elim))
noncomputable def PTs (X : Cx) (ifs : List Expr) (t : TT) : Prop :=
  ∀ (pins : List (Addr × Obj)) (s : Shared) (σ : St) (H : Hp) (Q : Bool → Hp → Prop), Inv X pins σ H s → t σ H Q →
    wpAny (model X.prog X.w) X.A (forIn ifs true fun c r => if r = true then do let ok ← isTrue c X.env (eval c X.env); pure (ForInStep.yield ok) else pure (ForInStep.yield r)) (TP X pins σ Q) X.xe s
theorem uH {X : Cx} {c : Expr} {t : TT} (h : PT X c t) : PTs X [c] t := fun pins s σ H Q I hw => wpAny_tests_one (h pins s σ H Q I hw)
noncomputable def zO (X : Cx) (N : List Str) (scope : Scope) (cl : List (Str × Addr)) (C : Addr) (s : Shared) (H : Hp) (fp : List Addr) : Cx where
  prog := X.prog
  w := X.w
  K := X.K
  mg := X.mg
  base := X.base
  A := X.A
  N := N
  s₀ := s
  H₀ := H
  env := compEnvC scope cl C X.env
  outer := X.stack
  stack := X.stack
  ex := fp
  fn := fun _ => false
  calm := X.calm
  pn := []
  xe := fun _ _ => False
noncomputable def xT (n : Nat) (js : List Nat) (σ : St) : St := List.replicate n none ++ js.map fun j => (σ[j]?).join
structure LcOk (X : Cx) (N : List Str) (n : Nat) (js : List Nat) (scope : Scope) (cl : List (Str × Addr)) : Prop where
  clos : closureFor scope X.env = pure cl
  nocell : ∀ y ∈ scope.names, y.2 ≠ .cell
  kind : scope.kind = .function
  names : ∀ y ∈ scope.names, y.2 = .local → scope.names.lookup y.1 = some .local
  cells : ∀ x c, cl.lookup x = some c → X.env.cells.lookup x = some c
  has : ∀ x, ((relabel scope X.env).names.lookup x = some .cell ∨ (relabel scope X.env).names.lookup x = some .free) → ∃ c, cl.lookup x = some c
  len : n + js.length = N.length
  free : ∀ (i : Nat) (x : Str), N[n + i]? = some x → ∃ j c, js[i]? = some j ∧ X.N[j]? = some x ∧ (X.env.scope.names.lookup x = some .cell ∨ X.env.scope.names.lookup x = some .free) ∧
    ((relabel scope X.env).names.lookup x = some .cell ∨ (relabel scope X.env).names.lookup x = some .free) ∧ cl.lookup x = some c
section
variable {X : Cx} {pins : List (Addr × Obj)} {σ : St} {H : Hp} {s : Shared} {N : List Str} {n : Nat} {js : List Nat} {scope : Scope} {cl : List (Str × Addr)}
theorem LcOk.ok (L : LcOk X N n js scope cl) (I : Inv X pins σ H s) {fp : List Addr} (hf : ∀ b ∈ fp, FpOk X pins H b) (hlt : ∀ b ∈ fp, b < s.heap.objs.size) {C : Addr} (hC : s.heap.objs.size ≤ C) : (zO X N scope cl C s H fp).Ok where
  mod := I.ok.mod
  kind := L.kind
  glob := I.ok.glob
  blt := I.ok.blt
  above := hC
  inj := fun x y c h1 h2 => I.ok.inj x y c (L.cells x c h1) (L.cells y c h2)
  has := fun x hx => L.has x hx
  cab := fun x c hx _ => by cases hx
  hd := I.ok.hd
  frames := I.ok.frames
  stk := .inl rfl
  exf := fun b hb => ⟨Nat.ne_of_lt (Nat.lt_of_lt_of_le (hlt b hb) hC), fun x c e => (hf b hb).2.2.2.2.1 x c (L.cells x c e)⟩
  bs := I.bs
  bsz := Nat.le_trans I.ok.bsz I.sz
  noex := fun b o e hb => by
    rcases (hf b hb).2.2.2.1 with z | z
    · exact I.ok.noex b o e z
    · exact absurd (Nat.lt_of_lt_of_le (Heap.lt_size (I.ok.bs b o e).1) z) (Nat.lt_irrefl _)
  exfs := fun b hb hz => by
    rcases List.mem_cons.mp (I.stkSub b hz) with z | z
    · exact (hf b hb).2.1 z
    · exact (hf b hb).2.2.1 z
  funs := I.stack
  frf := I.stkFree
theorem YS {n : Nat} {js : List Nat} {σ : St} {i : Nat} {v : V} (h : (xT n js σ)[i]? = some (some v)) : ∃ k j, i = n + k ∧ js[k]? = some j ∧ σ[j]? = some (some v) := by
  unfold xT at h
  by_cases hi : i < n
  · rw [List.getElem?_append_left (by simpa using hi), List.getElem?_replicate] at h
    split at h <;> cases h
  · rw [List.getElem?_append_right (by simpa using hi), List.length_replicate, List.getElem?_map] at h
    cases e : js[i - n]? with
    | none => rw [e] at h; cases h
    | some j =>
      rw [e] at h
      refine ⟨i - n, j, by omega, e, ?_⟩
      cases e2 : σ[j]? with
      | none => rw [Option.map_some, e2] at h; cases h
      | some o =>
        rw [Option.map_some, e2] at h
        have h' : o = some v := Option.some.inj h
        rw [h']
theorem Inv.lc (L : LcOk X N n js scope cl) (I : Inv X pins σ H s) {fp : List Addr} (hf : ∀ b ∈ fp, FpOk X pins H b) (hlt : ∀ b ∈ fp, b < s.heap.objs.size) {D C : Addr} {h1 : Heap} {m : Str → Option Value} {tk : Nat}
    (hD : s.heap.objs.size ≤ D) (hC : s.heap.objs.size ≤ C) (hDC : D ≠ C) (hn : h1.Ns C m) (old : ∀ b o, s.heap.get? b = some o → h1.get? b = some o) {k : Nat} (hl : h1.get? D = some { cls := .type "list", data := .seq ([] : List Value).toArray k }) :
    Inv (zO X N scope cl C s H fp) [] (xT n js σ) (upd H D (.lst [])) { s with heap := h1, toks := tk } where
  ok := L.ok I hf hlt hC
  os := rfl
  bare := I.bare
  base := Un.laid old hD (I.hok.fresh hD)
  loc := by
    refine ⟨m, hn, fun i x v e1 e2 e3 => ?_⟩
    obtain ⟨k, j, rfl, ej, eσ⟩ := YS e2
    obtain ⟨j', c, ej', eN, kx, kr, ec⟩ := L.free k x e1
    rw [ej] at ej'
    cases ej'
    obtain ⟨mx, hmx, hl'⟩ := I.loc
    obtain ⟨u, r, lk⟩ := hl' j x v eN eσ (kx.elim (fun z => .inr (.inl z)) fun z => .inr (.inr z))
    refine ⟨u, r, .inr ⟨kr, c, ec, ?_⟩⟩
    have hcx := L.cells x c ec
    rcases lk with ⟨z, _⟩ | ⟨_, c', e', hc'⟩
    · have z' : X.env.scope.names.lookup x = some .local := z
      rcases kx with y | y <;> rw [y] at z' <;> cases z'
    · rw [hcx] at e'
      cases e'
      obtain ⟨o, ho, hd⟩ := hc'
      exact ⟨o, old _ _ ho, hd⟩
  cell := fun x c e => by
    obtain ⟨v, o, ho, hd⟩ := I.cell x c (L.cells x c e)
    exact ⟨v, o, old _ _ ho, hd⟩
  free := by
    show upd H D (.lst []) C = none
    rw [za (Ne.symm hDC)]
    exact I.hok.fresh hC
  freeC := fun x c e => by
    obtain ⟨v, o, ho, hd⟩ := I.cell x c (L.cells x c e)
    rw [za (Nat.ne_of_lt (Nat.lt_of_lt_of_le (Heap.lt_size ho) hD))]
    exact I.freeC x c (L.cells x c e)
  pin := fun p hp => absurd (show p ∈ ([] : List (Addr × Obj)) from hp) (by simp)
  hok := I.hok.laid old hD ⟨Nat.zero_le _, [], k, .nil, hl⟩
  len := by
    show (xT n js σ).length = N.length
    unfold xT
    rw [List.length_append, List.length_replicate, List.length_map]
    exact L.len
theorem Inv.unlc {fp : List Addr} {C : Addr} {σ' : St} {H' : Hp} {s' : Shared} {h' : Heap} (I : Inv X pins σ H s) (hf : ∀ b ∈ fp, FpOk X pins H b) (hC : s.heap.objs.size ≤ C) (I' : Inv (zO X N scope cl C s H fp) [] σ' H' s') (hs : Heap.SameBut C s'.heap h') :
    Inv X pins σ H' { s' with heap := h' } := by
  have nC : ∀ b o, s.heap.get? b = some o → b ≠ C := fun b o e => Nat.ne_of_lt (Nat.lt_of_lt_of_le (Heap.lt_size e) hC)
  have hfree : H' C = none := I'.free
  have u := I'.base
  refine I.call' (ch := fp) (s' := { s' with heap := h' }) I'.os ⟨fun b o e n hb hx => ?_, fun b o e n hb hx => ?_, u.free, fun b o e hx => ?_, u.tups, u.frzs, u.tbls⟩ (fun b ob e => ?_) I'.bare fun b hb => ⟨(hf b hb).2.2.2.1, (hf b hb).2.1, (hf b hb).2.2.2.2.1, (hf b hb).2.2.2.2.2⟩
  · exact (hs.2 b (nC b o e)).trans (u.keep b o e n hb hx)
  · obtain ⟨sl, q⟩ := u.slot b o e n hb hx
    exact ⟨sl, (hs.2 b (nC b o e)).trans q⟩
  · obtain ⟨o', q⟩ := u.there b o e hx
    exact ⟨o', (hs.2 b (nC b o e)).trans q⟩
  · refine (I'.hok b ob e).stay (fun c w' hc q => (hs.2 c ?_).trans q) (fun _ q => q) fun _ _ q => q
    rintro rfl
    rcases hc with rfl | hc
    · rw [hfree] at e
      cases e
    · rw [hfree] at hc
      cases hc
noncomputable def tLc (wi : TI) (n : Nat) (js : List Nat) (g : TG) (tt : TT) (te : TE) : TE := fun σ H Q => wi σ H fun J H1 => ∀ D, H1 D = none → ∃ W : Nat → Nat → St → Hp → Prop, (∃ m, W 0 m (xT n js σ) (upd H1 D (.lst []))) ∧ ∀ i m σ' H', W i m σ' H' →
  (J.stop i H' ∧ Q (.ref D) H') ∨ (J.go i H' ∧ ∃ Nx : St → Hp → Prop, (∀ σ2 H2, Nx σ2 H2 → ∃ m', m' < m ∧ W (i + 1) m' σ2 H2) ∧
    ∀ x H2, J.yld i H' x H2 → g x σ' H2 fun σ3 H3 => tt σ3 H3 fun ok H4 => if ok = true then te σ3 H4 fun y H5 => ∃ ys, H5 D = some (.lst ys) ∧ ys.length < sizeLine ∧ Nx σ3 (upd H5 D (.lst (ys ++ [y]))) else Nx σ3 H4)
theorem kh {elt tg iter : Expr} {ifs : List Expr} {pos : Pos} {g : TG} {tt : TT} {te : TE} {it : Addr} {fp : List Addr} {tn : Nat → Heap → Prop} {J : It} {Q : V → Hp → Prop} {E : Value → Shared → Prop} {RR : Value → Addr → Result → Shared → Prop}
    (L : LcOk X N n js scope cl) (hc : X.calm = true) (I : Inv X pins σ H s) (T : Turn X.prog X.w X.K tg J fp it tn) (t0 : tn 0 s.heap) (hf : ∀ b ∈ fp, FpOk X pins H b)
    (hg : ∀ C s0 H0 fp0, PG (zO X N scope cl C s0 H0 fp0) tg g) (ht : ∀ C s0 H0 fp0, PTs (zO X N scope cl C s0 H0 fp0) ifs tt) (he : ∀ C s0 H0 fp0, PE (zO X N scope cl C s0 H0 fp0) elt te)
    (hw : ∀ D, H D = none → ∃ W : Nat → Nat → St → Hp → Prop, (∃ m, W 0 m (xT n js σ) (upd H D (.lst []))) ∧ ∀ i m σ' H', W i m σ' H' →
      (J.stop i H' ∧ Q (.ref D) H') ∨ (J.go i H' ∧ ∃ Nx : St → Hp → Prop, (∀ σ2 H2, Nx σ2 H2 → ∃ m', m' < m ∧ W (i + 1) m' σ2 H2) ∧
        ∀ x H2, J.yld i H' x H2 → g x σ' H2 fun σ3 H3 => tt σ3 H3 fun ok H4 => if ok = true then te σ3 H4 fun y H5 => ∃ ys, H5 D = some (.lst ys) ∧ ys.length < sizeLine ∧ Nx σ3 (upd H5 D (.lst (ys ++ [y]))) else Nx σ3 H4))
    (fin : ∀ D C σ' H' s', s.heap.objs.size ≤ C → Inv (zO X N scope cl C s H fp) [] σ' H' s' → Q (.ref D) H' → RR (.ref D) C (.ok .next) s') :
    wpAny (model X.prog X.w) X.A (newList []) (fun acc s1 => wpAny (model X.prog X.w) X.A (newFunctionEnv scope X.env.globals cl [] X.env.qual none .none (some X.env)) (fun cenv s2 =>
      codeAny (model X.prog X.w) X.A (.compStart (.ListComp elt [⟨tg, iter, ifs, 0⟩] scope pos) 0 (.ref it) acc { cenv with scope := relabel scope X.env }) (RR acc cenv.locals) s2) E s1) E s := by
  refine wpAny_newObj_type (wpAny_newFunctionEnv L.nocell (by intro y hy; simp at hy) (fun h1 hn1 hs1 => ?_) L.kind)
  dsimp only at hn1 hs1 ⊢
  generalize hG : s.heap.push { cls := .type "list", dict := none, data := .seq ([] : List Value).toArray } = G at hn1 hs1 ⊢
  have eC : G.objs.size = s.heap.objs.size + 1 := by rw [← hG, Heap.size_push]
  have hC : s.heap.objs.size ≤ G.objs.size := by rw [eC]; exact Nat.le_succ _
  have hDC : s.heap.objs.size ≠ G.objs.size := by rw [eC]; exact Nat.ne_of_lt (Nat.lt_succ_self _)
  have hlt : ∀ b ∈ fp, b < s.heap.objs.size := fun b hb => by
    obtain ⟨o, e, _⟩ := T.obj 0 _ t0 b hb
    exact Heap.lt_size e
  have old : ∀ b o, s.heap.get? b = some o → h1.get? b = some o := fun b o e => by
    have hb := Heap.lt_size e
    exact hs1.extBut b o (Nat.ne_of_lt (Nat.lt_of_lt_of_le hb hC)) (Heap.get?_push_of_some _ (hG ▸ Heap.get?_push_of_some _ e))
  have hl : h1.get? s.heap.objs.size = some { cls := .type "list", data := .seq ([] : List Value).toArray 0 } := hs1.extBut _ _ hDC (Heap.get?_push_of_some _ (hG ▸ Heap.get?_push_size _ rfl))
  have I1 : ∀ tk, Inv (zO X N scope cl G.objs.size s H fp) [] (xT n js σ) (upd H s.heap.objs.size (.lst [])) { s with heap := h1, toks := tk } := fun tk => Inv.lc L I hf hlt (Nat.le_refl _) hC hDC hn1 old hl
  have t1 : tn 0 h1 := T.keep _ _ _ t0 fun b _ o e => old b o e
  obtain ⟨W, ⟨m0, w0⟩, step⟩ := hw s.heap.objs.size (I.hok.fresh (Nat.le_refl _))
  have fr1 : ∀ b ∈ fp, upd H s.heap.objs.size (.lst []) b = none := fun b hb => by
    rw [za (Nat.ne_of_lt (hlt b hb))]
    exact (hf b hb).1
  have fps : ∀ {H' : Hp}, (∀ b ∈ fp, H' b = none) → ∀ b ∈ fp, FpOk (zO X N scope cl G.objs.size s H fp) [] H' b := fun {H'} hn b hb => by
    refine ⟨hn b hb, Nat.ne_of_lt (Nat.lt_of_lt_of_le (hlt b hb) hC), fun hz => ?_, .inl hb, fun x c e => (hf b hb).2.2.2.2.1 x c (L.cells x c e), fun p hp => absurd (show p ∈ ([] : List (Addr × Obj)) from hp) (by simp)⟩
    rcases List.mem_cons.mp (I.stkSub b hz) with z | z
    · exact (hf b hb).2.1 z
    · exact (hf b hb).2.2.1 z
  have loop : ∀ s0 : Shared, s0 = { s with heap := h1, toks := s.toks + ([] : List (Str × Value)).length } →
      codeAny (model X.prog X.w) X.A (.compLoop (.ListComp elt [⟨tg, iter, ifs, 0⟩] scope pos) 0 (.ref it) (.ref s.heap.objs.size) (compEnvC scope cl G.objs.size X.env)) (RR (.ref s.heap.objs.size) G.objs.size) s0 := by
    rintro s0 rfl
    refine VM (fun k s' => ∃ i σ' H', Inv (zO X N scope cl G.objs.size s H fp) [] σ' H' s' ∧ tn i s'.heap ∧ (∀ b ∈ fp, H' b = none) ∧ W i k σ' H') ?_ m0 ⟨0, _, _, I1 _, t1, fr1, w0⟩
    rintro k s3 ⟨i, σ3, H3, I3, t3, fr3, w3⟩
    rcases step i k σ3 H3 w3 with ⟨stop, qn⟩ | ⟨go, Nx, hN, body⟩
    · refine thn (T.done (zO X N scope cl G.objs.size s H fp) rfl rfl rfl hc i [] s3 σ3 H3 _ I3 (fps fr3) t3 stop) fun r s4 ⟨hr, I4⟩ => ?_
      subst hr
      exact fin _ _ σ3 H3 s4 hC I4 qn
    · refine thn (T.item (zO X N scope cl G.objs.size s H fp) rfl rfl rfl hc i [] s3 σ3 H3 _ I3 (fps fr3) t3 go) fun r s4 ⟨u, hr, h4⟩ => ?_
      subst hr
      refine thn h4 fun _ s5 ⟨x, H5, I5, r5, y5, t5, fr5⟩ => ?_
      have I5' := I5.pinned (fps fr5) (T.obj _ _ t5)
      refine thn (hg _ _ _ _ _ s5 σ3 H5 x u _ I5' r5 (body x H5 y5)) fun _ s6 ⟨σ6, H6, I6, q6⟩ => ?_
      have again : ∀ {σ7 : St} {H7 : Hp} {s7 : Shared}, Inv (zO X N scope cl G.objs.size s H fp) ([] ++ x5 fp s5.heap) σ7 H7 s7 → Nx σ7 H7 →
          ∃ j, j < k ∧ ∃ i σ' H', Inv (zO X N scope cl G.objs.size s H fp) [] σ' H' s7 ∧ tn i s7.heap ∧ (∀ b ∈ fp, H' b = none) ∧ W i j σ' H' := fun {σ7 H7 s7} I7 n7 => by
        obtain ⟨m', hm, w7⟩ := hN σ7 H7 n7
        refine ⟨m', hm, i + 1, σ7, H7, I7.unpinned, T.keep _ _ _ t5 fun b hb o e => (I7.pin (b, o) (List.mem_append_right _ (List.mem_append_right _ (yV hb e)))).1, fun b hb => ?_, w7⟩
        obtain ⟨o, e, _⟩ := T.obj _ _ t5 b hb
        exact (I7.pin (b, o) (List.mem_append_right _ (List.mem_append_right _ (yV hb e)))).2.1
      refine thn (ht _ _ _ _ _ s6 σ6 H6 _ I6 q6) fun ok s7 ⟨H7, I7, q7⟩ => ?_
      cases ok with
      | false =>
        rw [if_neg (by decide)] at q7 ⊢
        exact again I7 q7
      | true =>
        rw [if_pos rfl] at q7 ⊢
        refine thn (he _ _ _ _ _ s7 σ6 H7 _ I7 q7) fun v s8 ⟨y, H8, I8, r8, ys, e8, z8, q8⟩ => ?_
        refine thn (yt _ s8 σ6 H8 (.ref s.heap.objs.size) [y] (.ref s.heap.objs.size) [v] (fun _ H9 => Nx σ6 H9) I8 rfl (.cons r8 .nil) ⟨_, ys, y, rfl, rfl, e8, z8, q8⟩) fun _ s9 ⟨_, H9, I9, _, q9⟩ => ?_
        exact again I9 q9
  exact codeAny_compStart_list (loop _ rfl) (T.self X.A 0 _ _ _ t1 (loop _ rfl))
theorem Q5 {elt tg iter : Expr} {ifs : List Expr} {pos : Pos} {wi : TI} {g : TG} {tt : TT} {te : TE} (L : LcOk X N n js scope cl) (hc : X.calm = true) (hi : PI X tg iter wi)
    (hg : ∀ C s0 H0 fp0, PG (zO X N scope cl C s0 H0 fp0) tg g) (ht : ∀ C s0 H0 fp0, PTs (zO X N scope cl C s0 H0 fp0) ifs tt) (he : ∀ C s0 H0 fp0, PE (zO X N scope cl C s0 H0 fp0) elt te)
    (hs : ∀ x, foldedSetIterable iter X.env x = pure x := by intro _; rfl) : PE X (.ListComp elt [⟨tg, iter, ifs, 0⟩] scope pos) (tLc wi n js g tt te) := by
  intro pins s σ H Q I h
  rw [eval_ListComp]
  refine wpAny_comprehension_free (use := none) rfl hs L.clos L.kind L.names (thn (hi pins s σ H _ I h) fun v s1 h1 => thn h1 fun itv s2 h2 => ?_)
  obtain ⟨it, fp, tn, J, H2, e, I2, T, t2, f2, hw⟩ := h2
  subst e
  refine kh (RR := fun acc C => compPost (model X.prog X.w) X.A X.xe none (EP X pins σ Q) acc C) L hc I2 T t2 f2 hg ht he hw ?_
  intro D C σ' H' s' hC I' q
  obtain ⟨m, hn, _⟩ := I'.loc
  exact ⟨m, hn, fun h' hs' => ⟨.ref D, H', I2.unlc f2 hC I' hs', rfl, q⟩⟩
theorem YT {i : Nat} {x : Str} {elt tg iter : Expr} {ifs : List Expr} {pos pos' spos : Pos} {wi : TI} {g : TG} {tt : TT} {te : TE} (hN : X.N.Nodup) (hx : X.N[i]? = some x) (hk : X.env.scope.names.lookup x = some .local)
    (L : LcOk X N n js scope cl) (hc : X.calm = true) (hi : PI X tg iter wi)
    (hg : ∀ C s0 H0 fp0, PG (zO X N scope cl C s0 H0 fp0) tg g) (ht : ∀ C s0 H0 fp0, PTs (zO X N scope cl C s0 H0 fp0) ifs tt) (he : ∀ C s0 H0 fp0, PE (zO X N scope cl C s0 H0 fp0) elt te)
    (hsw : swapsWith (.ListComp elt [⟨tg, iter, ifs, 0⟩] scope pos) (some (.Name x pos')) spos.line X.env = pure true := by rfl)
    (hs : ∀ x, foldedSetIterable iter X.env x = pure x := by intro _; rfl) : PS X (.Assign [.Name x pos'] (.ListComp elt [⟨tg, iter, ifs, 0⟩] scope pos) spos) (qY (tLc wi n js g tt te) (xR i)) := by
  intro pins s σ H Dn I h
  rw [exec_Assign_Name_used _ _ _ _ hsw]
  refine wpAny_bind (wpAny_standAt (wpAny_bind ?_))
  show wpAny _ X.A (do let _ ← comprehension (.ListComp elt [⟨tg, iter, ifs, 0⟩] scope pos) scope X.env _ (newList []) false (eval iter X.env) (some (assign (.Name x pos') X.env))) _ _ s
  refine wpAny_bind (thn (wpAny_comprehension_free (use := some (assign (.Name x pos') X.env)) (Q := fun _ s' => SP X pins Dn .next s') rfl hs L.clos L.kind L.names (thn (hi pins s σ H _ I h) fun v s1 h1 => thn h1 fun itv s2 h2 => ?_)) fun _ s' hq => wpAny_pure (wpAny_pure hq))
  obtain ⟨it, fp, tn, J, H2, e, I2, T, t2, f2, hw⟩ := h2
  subst e
  refine kh (Q := fun x H1 => xR i x σ H1 Dn.nx) (RR := fun acc C => compPost (model X.prog X.w) X.A X.xe (some (assign (.Name x pos') X.env)) (fun _ s' => SP X pins Dn .next s') acc C) L hc I2 T t2 f2 hg ht he hw ?_
  intro D C σ' H' s' hC I' q
  obtain ⟨m, hn, _⟩ := I'.loc
  have I3 : Inv X pins σ H' s' := I2.unlc (h' := s'.heap) f2 hC I' (.refl ..)
  show wpAny _ X.A (assign (.Name x pos') X.env (.ref D)) _ X.xe s'
  refine wpAny_assign_Name (qf (v := .ref D) I3 hN hx (.inl hk) rfl (fun s4 I4 hb => ?_) (.inr hk))
  obtain ⟨a, hsa, ha⟩ := hb
  have bl : ∀ b o, s2.heap.get? b = some o → b ≠ C := fun b o e => Nat.ne_of_lt (Nat.lt_of_lt_of_le (Heap.lt_size e) hC)
  have hL : C ≠ X.env.locals := fun z => absurd (Nat.lt_of_lt_of_le I2.lt (z ▸ hC)) (Nat.lt_irrefl _)
  have hcl : ∀ y c, X.env.cells.lookup y = some c → c ≠ C := fun y c e => by
    obtain ⟨v, o, ho, _⟩ := I2.cell y c e
    exact bl c o ho
  have hCa : C ≠ a := by
    rcases ha with rfl | ha
    · exact hL
    · exact Ne.symm (hcl _ _ ha)
  exact ⟨m, hn.sameBut hsa hCa, fun h' hs' => ⟨_, H', I4.turned (h' := h') (t' := s4.toks) (it := C) (fun b o hb e => (hs'.2 b hb).trans e) I'.free hL (.inr (Nat.le_trans I2.sz hC)) hcl (fun p hp => bl _ _ (I2.pin p hp).1), q⟩⟩
end
end L2
namespace L2
open PySem PySem.Spec PyProof.Rows
structure Cal (P : Program) (w : World) (K : PySem.W.Frag) (mg : Str → Option Value) (base : Heap) (k : Nat) (x : Str) (dvs : List V) (sp : Sp) : Prop where
  ex : ∃ (f : Addr) (fd : FuncData) (ps : List Str) (ds : List Value), FnOk P w K mg base CX0 k f fd ps sp ∧ mg x = some (.ref f) ∧ PySem.W.keepIn K (.ref f) = true ∧ Binds K fd ps ds ∧ Vals dvs ds
section
variable {X : Cx} {k : Nat} {sp : Sp} {dvs : List V} {x : Str} {p pos : Pos} {e : Expr} {es : List Expr} {t : TA}
theorem zE (c : Cal X.prog X.w X.K X.mg X.base k x dvs sp) (hr : Room k X.A) (hg : Gl X x) (ha : PA X (e :: es) t) (hdb : (x == ("__debug__" : Str)) = false := by decide)
    (he : starEach (e :: es) X.env = (false, eval e X.env) :: starEach es X.env := by rfl) (hpl : (backTo pos (starEach es X.env)).any (·.1) = false := by rfl) : PE X (.Call (.Name x p) (e :: es) [] pos) (yp sp dvs E0 t) := by
  obtain ⟨f, fd, ps, ds, F, hm, hk, hb, hd⟩ := c.ex
  exact kd F hr hg hm hk hb hd XV ha hdb he hpl
end
section
variable {X : Cx}
noncomputable def Q6 (K : PySem.W.Frag) (H : Hp) (x : V) : Prop := ∃ n, TyOf K H x (.type n) ∧ (n = "NoneType" ∨ n = "str" ∨ n = "list" ∨ n = "tuple" ∨ n = "dict")
noncomputable def Th (K : PySem.W.Frag) (H : Hp) (x : V) : Option Int → Prop
  | some i => x = .int i
  | none => (∃ b, x = .bl b) ∨ Q6 K H x
end
mutual
noncomputable def Rep (K : PySem.W.Frag) (H : Hp) : PyData → V → Prop
  | .none, x => x = .non
  | .bool b, x => x = .bl b
  | .int i, x => x = .int i
  | .str z, x => x = .str z
  | .list ds, x => ∃ a xs, x = .ref a ∧ SqL K H a xs ∧ Reps K H ds xs
  | .tuple ds, x => ∃ a xs, x = .ref a ∧ SqT K H a xs ∧ Reps K H ds xs
  | .dict kvs, x => kvs = [] ∧ ∃ a, x = .ref a ∧ Rd H a (.dK [])
noncomputable def Reps (K : PySem.W.Frag) (H : Hp) : List PyData → List V → Prop
  | [], xs => xs = []
  | d :: ds, xs => ∃ x r, xs = x :: r ∧ Rep K H d x ∧ Reps K H ds r
end
theorem SqL.same {K : PySem.W.Frag} {H H' : Hp} {a : Addr} {xs : List V} (e : Same H H') (h : SqL K H a xs) : SqL K H' a xs := e.seq h
theorem SqT.same {K : PySem.W.Frag} {H H' : Hp} {a : Addr} {xs : List V} (e : Same H H') (h : SqT K H a xs) : SqT K H' a xs := by
  rcases h with (h | ⟨o, h⟩) | h
  · exact .inl (.inl (e _ _ h))
  · exact .inl (.inr ⟨o, e _ _ h⟩)
  · exact .inr h
mutual
theorem Rep.same {K : PySem.W.Frag} {H H' : Hp} (e : Same H H') : ∀ (d : PyData) (x : V), Rep K H d x → Rep K H' d x
  | .none, _, h => h
  | .bool _, _, h => h
  | .int _, _, h => h
  | .str _, _, h => h
  | .list ds, x, h => by
    obtain ⟨a, xs, e1, h1, h2⟩ := h
    exact ⟨a, xs, e1, h1.same e, Reps.same e ds xs h2⟩
  | .tuple ds, x, h => by
    obtain ⟨a, xs, e1, h1, h2⟩ := h
    exact ⟨a, xs, e1, h1.same e, Reps.same e ds xs h2⟩
  | .dict _, _, h => by
    obtain ⟨e1, a, e2, h1⟩ := h
    refine ⟨e1, a, e2, ?_⟩
    rcases h1 with h1 | ⟨o, h1⟩
    · exact .inl (e _ _ h1)
    · exact .inr ⟨o, e _ _ h1⟩
theorem Reps.same {K : PySem.W.Frag} {H H' : Hp} (e : Same H H') : ∀ (ds : List PyData) (xs : List V), Reps K H ds xs → Reps K H' ds xs
  | [], _, h => h
  | d :: ds, xs, h => by
    obtain ⟨x, r, e1, h1, h2⟩ := h
    exact ⟨x, r, e1, Rep.same e d x h1, Reps.same e ds r h2⟩
end
theorem Reps.length {K : PySem.W.Frag} {H : Hp} : ∀ {ds : List PyData} {xs : List V}, Reps K H ds xs → ds.length = xs.length
  | [], xs, h => by
    cases (show xs = [] from h)
    rfl
  | d :: ds, _, h => by
    obtain ⟨x, r, rfl, _, h2⟩ := h
    rw [List.length_cons, List.length_cons, h2.length]
theorem Reps.get {K : PySem.W.Frag} {H : Hp} : ∀ {ds : List PyData} {xs : List V} (i : Nat) {x : V}, Reps K H ds xs → xs[i]? = some x → ∃ d, ds[i]? = some d ∧ Rep K H d x
  | [], _, i, x, h, e => by
    rw [show _ = _ from h] at e
    cases e
  | d :: ds, _, i, x, h, e => by
    obtain ⟨y, r, rfl, h1, h2⟩ := h
    cases i with
    | zero =>
      cases e
      exact ⟨d, rfl, h1⟩
    | succ i =>
      obtain ⟨d', e', h'⟩ := h2.get i (x := x) (by simpa using e)
      exact ⟨d', by simpa using e', h'⟩
theorem Reps.snoc {K : PySem.W.Frag} {H : Hp} : ∀ {ds : List PyData} {xs : List V} {d : PyData} {x : V}, Reps K H ds xs → Rep K H d x → Reps K H (ds ++ [d]) (xs ++ [x])
  | [], _, d, x, h, h' => by
    rw [show _ = _ from h]
    exact ⟨x, [], rfl, h', rfl⟩
  | d0 :: ds, _, d, x, h, h' => by
    obtain ⟨y, r, rfl, h1, h2⟩ := h
    exact ⟨y, r ++ [x], rfl, h1, h2.snoc h'⟩
mutual
theorem Rep.reads {X : Cx} {pins : List (Addr × Obj)} {σ : St} {H : Hp} {s : Shared} (I : Inv X pins σ H s) : ∀ (d : PyData) (x : V) (u : Value), Rep X.K H d x → RelV x u → ∃ as, Reads s.heap u d as
  | .none, x, u, h, r => by
    cases (show x = V.non from h)
    cases r
    exact ⟨_, .none⟩
  | .bool b, x, u, h, r => by
    cases (show x = V.bl b from h)
    cases r
    exact ⟨_, .bool b⟩
  | .int i, x, u, h, r => by
    cases (show x = V.int i from h)
    obtain ⟨t, rfl⟩ := r
    exact ⟨_, .int i t⟩
  | .str z, x, u, h, r => by
    cases (show x = V.str z from h)
    obtain ⟨t, rfl⟩ := r
    exact ⟨_, .str z t⟩
  | .list ds, x, u, h, r => by
    obtain ⟨a, xs, rfl, h1, h2⟩ := h
    cases r
    obtain ⟨its, rv, ⟨o, n, e, c, _, dt⟩, _⟩ := I.list h1
    obtain ⟨as, q⟩ := Reps.reads I ds xs its h2 rv
    exact ⟨_, .list e c dt (by simpa using q)⟩
  | .tuple ds, x, u, h, r => by
    obtain ⟨a, xs, rfl, h1, h2⟩ := h
    cases r
    obtain ⟨its, rv, ⟨o, e, c, n, dt⟩, _⟩ := I.tuple h1
    obtain ⟨as, q⟩ := Reps.reads I ds xs its h2 rv
    exact ⟨_, .tuple e c dt (by simpa using q)⟩
  | .dict kvs, x, u, h, r => by
    obtain ⟨rfl, a, rfl, h1⟩ := h
    cases r
    obtain ⟨_, _, vs, kv, dd⟩ := (show zI X.prog X.w H s.heap a (.dK []) from h1.ok I.hok)
    cases kv
    obtain ⟨o, es, ep, h2, h3, h4, _, h5, _⟩ := dd
    have e0 : es = #[] := by
      have := h5.length
      exact Array.eq_empty_of_size_eq_zero (by simpa using this)
    subst e0
    exact ⟨_, .dict h2 h3.1 h4 .nil .nil⟩
theorem Reps.reads {X : Cx} {pins : List (Addr × Obj)} {σ : St} {H : Hp} {s : Shared} (I : Inv X pins σ H s) : ∀ (ds : List PyData) (xs : List V) (us : List Value), Reps X.K H ds xs → Vals xs us → ∃ as, ReadsAll s.heap us ds as
  | [], xs, us, h, r => by
    cases (show xs = [] from h)
    cases r
    exact ⟨_, .nil⟩
  | d :: ds, xs, us, h, r => by
    obtain ⟨x, zv, rfl, h1, h2⟩ := h
    cases r with
    | cons r1 r2 =>
      obtain ⟨as, q⟩ := Rep.reads I d x _ h1 r1
      obtain ⟨bs, q2⟩ := Reps.reads I ds zv _ h2 r2
      exact ⟨_, .cons q q2⟩
end
section
variable {X : Cx}
noncomputable def YU (K : PySem.W.Frag) : R2 := fun x y H Q => ∃ d e, Rep K H d x ∧ Rep K H e y ∧ SeqAt.shaped d = true ∧ SeqAt.shaped e = true ∧ Q (.bl (PyData.eqv d e)) H
noncomputable def YV (K : PySem.W.Frag) : R2 := fun x y H Q => ∃ d e, Rep K H d x ∧ Rep K H e y ∧ SeqAt.shaped d = true ∧ SeqAt.shaped e = true ∧ Q (.bl (!PyData.eqv d e)) H
theorem U2 (hu : X.A.units + 64 < cLine) : OpR X (compareOp .Eq) (YU X.K) := by
  intro pins s σ H x y v u Q I rx ry h
  obtain ⟨d, e, h1, h2, s1, s2, q⟩ := h
  obtain ⟨as, r1⟩ := Rep.reads I d x v h1 rx
  obtain ⟨bs, r2⟩ := Rep.reads I e y u h2 ry
  exact eq_dataH r1 r2 s1 s2 hu ⟨.bl _, H, I, rfl, q⟩
theorem U3 (hu : X.A.units + 64 < cLine) : OpR X (compareOp .NotEq) (YV X.K) := by
  intro pins s σ H x y v u Q I rx ry h
  obtain ⟨d, e, h1, h2, s1, s2, q⟩ := h
  obtain ⟨as, r1⟩ := Rep.reads I d x v h1 rx
  obtain ⟨bs, r2⟩ := Rep.reads I e y u h2 ry
  exact ne_dataH r1 r2 s1 s2 hu ⟨.bl _, H, I, rfl, q⟩
end
end L2
namespace L2
open PySem PySem.Spec PyProof.Rows
noncomputable def ji : Expr → Bool
  | .Starred .. => false
  | _ => true
theorem qH {e : Expr} {es : List Expr} {env : Env} (h : ji e = true) : starEach (e :: es) env = (false, eval e env) :: starEach es env := by
  cases e <;> first | rfl | cases h
structure QA (X : Cx) (es : List Expr) (t : TA) : Prop where
  pa : PA X es t
theorem qn {X : Cx} : QA X [] uD := ⟨UT⟩
theorem qc {X : Cx} {e : Expr} {es : List Expr} {te : TE} {t : TA} (ha : PE X e te) (hr : QA X es t) (h : ji e = true := by rfl) : QA X (e :: es) (xS te t) := ⟨VF ha hr.pa (qH h)⟩
theorem zC {X : Cx} {es : List Expr} {t : TA} {pos : Pos} (h : QA X es t) : PE X (.List es pos) (uE t) := ZN h.pa
theorem xJ {X : Cx} {es : List Expr} {t : TA} {pos : Pos} {k : Nat} (h : QA X es t) : PE X (.Tuple es k pos) (k6 t) := UU h.pa
noncomputable def Sm (a : Int) : Prop := -1000000000000 ≤ a ∧ a ≤ 1000000000000
theorem Sm.mulL {a b : Int} (h : Sm a) : uC a b := .inl ⟨Int.lt_of_lt_of_le (by decide) h.1, Int.lt_of_le_of_lt h.2 (by decide)⟩
theorem Sm.mulR {a b : Int} (h : Sm b) : uC a b := .inr ⟨Int.lt_of_lt_of_le (by decide) h.1, Int.lt_of_le_of_lt h.2 (by decide)⟩
theorem VN {a b : Int} (h1 : -1000000000000 ≤ a) (h2 : a ≤ 1000000000000) : uC a b := Sm.mulL ⟨h1, h2⟩
theorem YW {a b : Int} (h1 : -1000000000000 ≤ b) (h2 : b ≤ 1000000000000) : uC a b := Sm.mulR ⟨h1, h2⟩
theorem zP {H : Hp} {p : Addr} {o : HO} (hp : H p = none) : Same H (upd H p o) := fun b u e => by
  rw [za (zF e hp)]
  exact e
theorem xg {H H' : Hp} {r : Addr} {o : HO} (hs : Same H H') (hr : H r = none) : Same H (upd H' r o) := fun b u e => by
  rw [za (zF e hr)]
  exact hs b u e
noncomputable def v8 (n : Nat) (g : TG) (tb : TS) (D : Ends) (σ : St) (H : Hp) : Prop := ∃ W : Nat → Nat → St → Hp → Prop, (∃ m, W 0 m σ H) ∧ ∀ i m σ H, W i m σ H →
  ((Itr 0 n).stop i H ∧ D.nx σ H) ∨ ((Itr 0 n).go i H ∧ ∃ N : St → Hp → Prop, (∀ σ' H', N σ' H' → ∃ m', m' < m ∧ W (i + 1) m' σ' H') ∧ ∀ x H', (Itr 0 n).yld i H x H' → g x σ H' fun σ2 H2 => tb { D with nx := N, ct := N, bk := D.nx } σ2 H2)
theorem v8.by {n : Nat} {g : TG} {tb : TS} {D : Ends} {σ : St} {H : Hp} (Pv : Nat → St → Hp → Prop) (h0 : Pv 0 σ H)
    (hs : ∀ i σ H, i < n → Pv i σ H → g (.int i) σ H fun σ2 H2 => tb { D with nx := Pv (i + 1), ct := Pv (i + 1), bk := D.nx } σ2 H2) (hd : ∀ σ H, Pv n σ H → D.nx σ H) : v8 n g tb D σ H :=
  ZI (lo := 0) (n := n) Pv h0 (fun i σ H hi p => by rw [Int.zero_add]; exact hs i σ H hi p) hd
theorem v8.run {n : Nat} {g : TG} {tb : TS} {D : Ends} {σ : St} {H : Hp} (Pv : Nat → St → Hp → Prop) (h0 : Pv 0 σ H)
    (hs : ∀ i σ H, i < n → Pv i σ H → ∀ R : St → Hp → Prop, (∀ σ' H', Pv (i + 1) σ' H' → R σ' H') → g (.int i) σ H fun σ2 H2 => tb { D with nx := R, ct := R, bk := D.nx } σ2 H2) (hd : ∀ σ H, Pv n σ H → D.nx σ H) : v8 n g tb D σ H :=
  v8.by Pv h0 (fun i σ H hi p => hs i σ H hi p _ fun _ _ z => z) hd
noncomputable def v9 (K : PySem.W.Frag) (a : Addr) (g : TG) (tb : TS) (D : Ends) (σ : St) (H : Hp) : Prop := ∃ W : Nat → Nat → St → Hp → Prop, (∃ m, W 0 m σ H) ∧ ∀ i m σ H, W i m σ H →
  ((Itl K a).stop i H ∧ D.nx σ H) ∨ ((Itl K a).go i H ∧ ∃ N : St → Hp → Prop, (∀ σ' H', N σ' H' → ∃ m', m' < m ∧ W (i + 1) m' σ' H') ∧ ∀ x H', (Itl K a).yld i H x H' → g x σ H' fun σ2 H2 => tb { D with nx := N, ct := N, bk := D.nx } σ2 H2)
theorem v9.by {K : PySem.W.Frag} {a : Addr} {xs : List V} {g : TG} {tb : TS} {D : Ends} {σ : St} {H : Hp} (Pv : Nat → St → Hp → Prop) (h0 : Pv 0 σ H) (hl : ∀ i σ H, i ≤ xs.length → Pv i σ H → SqL K H a xs)
    (hs : ∀ i x σ H, xs[i]? = some x → Pv i σ H → g x σ H fun σ2 H2 => tb { D with nx := Pv (i + 1), ct := Pv (i + 1), bk := D.nx } σ2 H2) (hd : ∀ σ H, Pv xs.length σ H → D.nx σ H) : v9 K a g tb D σ H :=
  YJ Pv h0 hl hs hd
theorem v9.run {K : PySem.W.Frag} {a : Addr} {xs : List V} {g : TG} {tb : TS} {D : Ends} {σ : St} {H : Hp} (Pv : Nat → St → Hp → Prop) (h0 : Pv 0 σ H) (hl : ∀ i σ H, i ≤ xs.length → Pv i σ H → SqL K H a xs)
    (hs : ∀ i x σ H, xs[i]? = some x → Pv i σ H → ∀ R : St → Hp → Prop, (∀ σ' H', Pv (i + 1) σ' H' → R σ' H') → g x σ H fun σ2 H2 => tb { D with nx := R, ct := R, bk := D.nx } σ2 H2) (hd : ∀ σ H, Pv xs.length σ H → D.nx σ H) : v9 K a g tb D σ H :=
  v9.by Pv h0 hl (fun i x σ H hi p => hs i x σ H hi p _ fun _ _ z => z) hd
theorem ki {t u : TS} {D : Ends} {σ : St} {H : Hp} (J : St → Hp → Prop) (ht : ∀ R : St → Hp → Prop, (∀ σ' H', J σ' H' → R σ' H') → t { D with nx := R } σ H) (hu : ∀ σ' H', J σ' H' → u D σ' H') : uA t u D σ H := ht (u D) hu
structure FunD (K : PySem.W.Frag) (x qual : Str) (st : Stmt) (ds : List Value) (f : Addr) (fd : FuncData) : Prop where
  ex : ∃ (oc : Value) (od : Option Addr) (kV doc pm : Value) (an : Option Addr) (cdv ct : Value) (osl : Array (Option Value)) (T : Addr) (oT : Obj) (n : Nat),
    fd = PySem.W.fnOf x qual (defArgs st) (defBody st) (defScope st) (.ref T) kV doc pm an cdv ct ∧ K.lookup f = some ⟨oc, od, .func fd, osl⟩ ∧ PySem.W.codeIn K cdv qual = true ∧ K.lookup T = some oT ∧ oT.data = .seq ds.toArray n
  kp : PySem.W.keepIn K (.ref f) = true
section
variable {P : Program} {w : World} {K : PySem.W.Frag} {mg : Str → Option Value} {base : Heap}
theorem FunD.ok {x qual : Str} {st : Stmt} {ds : List Value} {f : Addr} {fd : FuncData} {N ps : List Str} {k : Nat} {sp : Sp} (F : FunD K x qual st ds f fd) (S : FnScope N ps (defScope st)) (len : ∀ vs H Q E, sp vs H Q E → vs.length = ps.length)
    (hbody : ∀ (cdv : Value) (A : Around) (outer : List Env) (s : Shared) (H : Hp) (vs : List V) (Q : VK) (E : XK), Room k (A.deeper (envOfC qual (defScope st) s.heap.objs.size f cdv)) → sp vs H Q E →
      ∃ t, PSs (cxOf CX0 P w K mg base N qual (defScope st) f cdv A outer s H E).nox (defBody st) t ∧ t { nx := fun _ H' => Q .non H', rt := Q } (L2.start N vs) H) : FnOk P w K mg base CX0 (k + 1) f fd ps sp := by
  obtain ⟨oc, od, kV, doc, pm, an, cdv, ct, osl, T, oT, n, rfl, lk, hcd, _, _⟩ := F.ex
  refine qL lk hcd S len fun A outer s H vs Q E hr hsp => ?_
  obtain ⟨t, h, q⟩ := hbody cdv A outer s H vs Q E hr hsp
  exact ⟨t, h.nox, q⟩
theorem FunD.binds {x qual : Str} {st : Stmt} {ds es : List Value} {f : Addr} {fd : FuncData} {ps : List Str} (F : FunD K x qual st ds f fd)
    (h : ∀ (T : Addr) (kV doc pm : Value) (an : Option Addr) (cdv ct : Value) (us : List Value), (us ++ es).length = ps.length →
      ∃ k, bindArgs (PySem.W.fnOf x qual (defArgs st) (defBody st) (defScope st) (.ref T) kV doc pm an cdv ct) ⟨us, []⟩ = seqItems? (PySem.W.fnOf x qual (defArgs st) (defBody st) (defScope st) (.ref T) kV doc pm an cdv ct).defaults >>= k ∧ k (some ds.toArray) = pure (ps.zip (us ++ es))) : Binds K fd ps es := by
  obtain ⟨oc, od, kV, doc, pm, an, cdv, ct, osl, T, oT, n, rfl, lk, hcd, hT, hd⟩ := F.ex
  intro s us hK hl
  obtain ⟨k, h1, h2⟩ := h T kV doc pm an cdv ct us hl
  exact .of_defaults rfl (hK _ _ hT) hd h1 h2
end
end L2
namespace L2
open PySem PySem.Spec PyProof.Rows
theorem xz {α : Type} {x : Str} {c : α} : ∀ {l : List (Str × α)}, l.lookup x = some c → (x, c) ∈ l
  | [], h => by cases h
  | (y, d) :: l, h => by
    rw [List.lookup_cons] at h
    cases e : x == y with
    | true =>
      rw [e] at h
      have h1 : x = y := by simpa using e
      have h2 : d = c := Option.some.inj h
      rw [h1, h2]
      exact List.mem_cons_self
    | false =>
      rw [e] at h
      exact List.mem_cons_of_mem _ (xz h)
noncomputable def uI (k : Option NameKind) : Bool := match k with
  | some .cell => true
  | some .free => true
  | _ => false
theorem kj {k : Option NameKind} (h : uI k = true) : k = some .cell ∨ k = some .free := by
  unfold uI at h
  split at h
  · exact .inl rfl
  · exact .inr rfl
  · cases h
inductive CellsIn (big : List (Str × Addr)) : List (Str × Addr) → Prop
  | nil : CellsIn big []
  | cons {x : Str} {c : Addr} {l : List (Str × Addr)} : big.lookup x = some c → CellsIn big l → CellsIn big ((x, c) :: l)
theorem CellsIn.mem {big : List (Str × Addr)} {x : Str} {c : Addr} : ∀ {l : List (Str × Addr)}, CellsIn big l → (x, c) ∈ l → big.lookup x = some c
  | _, .nil, h => by cases h
  | _, .cons e r, h => by
    rcases List.mem_cons.mp h with z | z
    · cases z
      exact e
    · exact r.mem z
theorem YX {X : Cx} {N : List Str} {n : Nat} {js : List Nat} {scope : Scope} {cl : List (Str × Addr)} (clos : closureFor scope X.env = pure cl := by rfl) (nocell : (scope.names.all fun y => !(y.2 == .cell)) = true := by rfl) (kind : scope.kind = .function := by rfl)
    (names : (scope.names.all fun y => !(y.2 == .local) || scope.names.lookup y.1 == some .local) = true := by rfl) (cells : CellsIn X.env.cells cl := by repeat' first | exact CellsIn.nil | refine CellsIn.cons rfl ?_)
    (has : ((relabel scope X.env).names.all fun y => !(uI (some y.2)) || (cl.lookup y.1).isSome) = true := by rfl) (len : n + js.length = N.length := by rfl)
    (free : ((N.drop n).zip js).all (fun p => X.N[p.2]? == some p.1 && uI (X.env.scope.names.lookup p.1) && uI ((relabel scope X.env).names.lookup p.1) && (cl.lookup p.1).isSome) = true := by rfl) : LcOk X N n js scope cl where
  clos := clos
  nocell := fun y hy e => by
    have h := List.all_eq_true.mp nocell y hy
    rw [e] at h
    cases h
  kind := kind
  names := fun y hy e => by
    have h := List.all_eq_true.mp names y hy
    rw [e] at h
    simpa using h
  cells := fun x c h => cells.mem (xz h)
  has := fun x h => by
    have key : ∀ k, (relabel scope X.env).names.lookup x = some k → uI (some k) = true → ∃ c, cl.lookup x = some c := fun k e hk => by
      have h1 := List.all_eq_true.mp has (x, k) (xz e)
      rw [hk] at h1
      exact Option.isSome_iff_exists.mp (by simpa using h1)
    rcases h with h | h
    · exact key _ h rfl
    · exact key _ h rfl
  len := len
  free := fun i x h => by
    have hd : (N.drop n)[i]? = some x := by rw [List.getElem?_drop]; exact h
    have hi : i < (N.drop n).length := (List.getElem?_eq_some_iff.mp hd).1
    have hj : i < js.length := by rw [List.length_drop] at hi; omega
    have hz : ((N.drop n).zip js)[i]? = some (x, js[i]) := by
      rw [List.getElem?_zip_eq_some]
      exact ⟨hd, List.getElem?_eq_getElem hj⟩
    have h1 := List.all_eq_true.mp free (x, js[i]) (List.mem_of_getElem? hz)
    simp only [Bool.and_eq_true, beq_iff_eq] at h1
    obtain ⟨⟨⟨a1, a2⟩, a3⟩, a4⟩ := h1
    obtain ⟨c, hc⟩ := Option.isSome_iff_exists.mp a4
    exact ⟨js[i], c, List.getElem?_eq_getElem hj, a1, kj a2, kj a3, hc⟩
noncomputable def LcL (K : PySem.W.Frag) (a : Addr) (g : TG) (tt : TT) (te : TE) (σ0 : St) (H1 : Hp) (Q : VK) : Prop := ∀ D, H1 D = none → ∃ W : Nat → Nat → St → Hp → Prop, (∃ m, W 0 m σ0 (upd H1 D (.lst []))) ∧ ∀ i m σ' H', W i m σ' H' →
  ((Itl K a).stop i H' ∧ Q (.ref D) H') ∨ ((Itl K a).go i H' ∧ ∃ Nx : St → Hp → Prop, (∀ σ2 H2, Nx σ2 H2 → ∃ m', m' < m ∧ W (i + 1) m' σ2 H2) ∧
    ∀ x H2, (Itl K a).yld i H' x H2 → g x σ' H2 fun σ3 H3 => tt σ3 H3 fun ok H4 => if ok = true then te σ3 H4 fun y H5 => ∃ ys, H5 D = some (.lst ys) ∧ ys.length < sizeLine ∧ Nx σ3 (upd H5 D (.lst (ys ++ [y]))) else Nx σ3 H4)
theorem LcL.by {K : PySem.W.Frag} {a : Addr} {xs : List V} {g : TG} {tt : TT} {te : TE} {σ0 : St} {H1 : Hp} {Q : VK} (Pv : Addr → Nat → St → Hp → Prop) (h0 : ∀ D, H1 D = none → Pv D 0 σ0 (upd H1 D (.lst [])))
    (hl : ∀ D i σ H, H1 D = none → i ≤ xs.length → Pv D i σ H → SqL K H a xs)
    (hs : ∀ D i x σ H, H1 D = none → xs[i]? = some x → Pv D i σ H → g x σ H fun σ3 H3 => tt σ3 H3 fun ok H4 => if ok = true then te σ3 H4 fun y H5 => ∃ ys, H5 D = some (.lst ys) ∧ ys.length < sizeLine ∧ Pv D (i + 1) σ3 (upd H5 D (.lst (ys ++ [y]))) else Pv D (i + 1) σ3 H4)
    (hd : ∀ D σ H, H1 D = none → Pv D xs.length σ H → Q (.ref D) H) : LcL K a g tt te σ0 H1 Q := by
  intro D hD
  refine ⟨fun i m σ H => m = xs.length - i ∧ i ≤ xs.length ∧ Pv D i σ H, ⟨xs.length, by simp, Nat.zero_le _, h0 D hD⟩, ?_⟩
  rintro i m σ H ⟨rfl, hi, p⟩
  have q := hl D i σ H hD hi p
  by_cases hlt : i < xs.length
  · refine .inr ⟨⟨xs, xs[i], q, by simp [hlt]⟩, Pv D (i + 1), fun σ' H' p' => ⟨xs.length - (i + 1), by omega, rfl, hlt, p'⟩, fun x H' y => ?_⟩
    obtain ⟨e, y⟩ := y
    subst e
    exact hs D i x σ _ hD (y xs q) p
  · have e : i = xs.length := by omega
    subst e
    exact .inl ⟨⟨xs, q, Nat.le_refl _⟩, hd D σ H hD p⟩
noncomputable def LcR (n0 : Nat) (g : TG) (tt : TT) (te : TE) (σ0 : St) (H1 : Hp) (Q : VK) : Prop := ∀ D, H1 D = none → ∃ W : Nat → Nat → St → Hp → Prop, (∃ m, W 0 m σ0 (upd H1 D (.lst []))) ∧ ∀ i m σ' H', W i m σ' H' →
  ((Itr 0 n0).stop i H' ∧ Q (.ref D) H') ∨ ((Itr 0 n0).go i H' ∧ ∃ Nx : St → Hp → Prop, (∀ σ2 H2, Nx σ2 H2 → ∃ m', m' < m ∧ W (i + 1) m' σ2 H2) ∧
    ∀ x H2, (Itr 0 n0).yld i H' x H2 → g x σ' H2 fun σ3 H3 => tt σ3 H3 fun ok H4 => if ok = true then te σ3 H4 fun y H5 => ∃ ys, H5 D = some (.lst ys) ∧ ys.length < sizeLine ∧ Nx σ3 (upd H5 D (.lst (ys ++ [y]))) else Nx σ3 H4)
theorem LcR.by {n0 : Nat} {g : TG} {tt : TT} {te : TE} {σ0 : St} {H1 : Hp} {Q : VK} (Pv : Addr → Nat → St → Hp → Prop) (h0 : ∀ D, H1 D = none → Pv D 0 σ0 (upd H1 D (.lst [])))
    (hs : ∀ D i σ H, H1 D = none → i < n0 → Pv D i σ H → g (.int i) σ H fun σ3 H3 => tt σ3 H3 fun ok H4 => if ok = true then te σ3 H4 fun y H5 => ∃ ys, H5 D = some (.lst ys) ∧ ys.length < sizeLine ∧ Pv D (i + 1) σ3 (upd H5 D (.lst (ys ++ [y]))) else Pv D (i + 1) σ3 H4)
    (hd : ∀ D σ H, H1 D = none → Pv D n0 σ H → Q (.ref D) H) : LcR n0 g tt te σ0 H1 Q := by
  intro D hD
  refine ⟨fun i m σ H => m = n0 - i ∧ i ≤ n0 ∧ Pv D i σ H, ⟨n0, by simp, Nat.zero_le _, h0 D hD⟩, ?_⟩
  rintro i m σ H ⟨rfl, hi, p⟩
  by_cases hlt : i < n0
  · refine .inr ⟨hlt, Pv D (i + 1), fun σ' H' p' => ⟨n0 - (i + 1), by omega, rfl, hlt, p'⟩, fun x H' y => ?_⟩
    obtain ⟨e, y⟩ := y
    subst e y
    rw [Int.zero_add]
    exact hs D i σ _ hD hlt p
  · have e : i = n0 := by omega
    subst e
    exact .inl ⟨Nat.le_refl _, hd D σ H hD p⟩
end L2
namespace L2
open PySem PySem.Spec PyProof.Rows
noncomputable abbrev Cel := Str × Int
noncomputable abbrev Pict := List (List Cel)
noncomputable def vB (c : Cel) : PyData := .tuple [.str c.1, .int c.2]
noncomputable def Jx (r : List Cel) : PyData := .list (r.map vB)
noncomputable def Jy (p : Pict) : PyData := .list (p.map Jx)
noncomputable def okC (c : Cel) : Prop := PyData.strOk c.1 = true
structure IsPic (p : Pict) (w h : Nat) : Prop where
  hh : p.length = h
  ww : ∀ r ∈ p, r.length = w
  ok : ∀ r ∈ p, ∀ c ∈ r, okC c
  w1 : 1 ≤ w
  w2 : w ≤ 24
  h1 : 1 ≤ h
  h2 : h ≤ 12
theorem Reps.at {K : PySem.W.Frag} {H : Hp} : ∀ {ds : List PyData} {xs : List V} (i : Nat) {d : PyData}, Reps K H ds xs → ds[i]? = some d → ∃ x, xs[i]? = some x ∧ Rep K H d x
  | [], _, i, d, _, e => by cases e
  | d0 :: ds, _, i, d, h, e => by
    obtain ⟨y, r, rfl, h1, h2⟩ := h
    cases i with
    | zero =>
      cases e
      exact ⟨y, rfl, h1⟩
    | succ i =>
      obtain ⟨x, e', h'⟩ := h2.at i (d := d) (by simpa using e)
      exact ⟨x, by simpa using e', h'⟩
section
variable {K : PySem.W.Frag} {H : Hp}
end
noncomputable def xh (H : Hp) : List (Int × Int) → List V → Prop
  | [], xs => xs = []
  | p :: l, xs => ∃ t r, xs = .ref t :: r ∧ H t = some (.tup [.int p.1, .int p.2]) ∧ xh H l r
theorem xh.same {H H' : Hp} (e : ∀ b xs, H b = some (.tup xs) → H' b = some (.tup xs)) : ∀ {l : List (Int × Int)} {xs : List V}, xh H l xs → xh H' l xs
  | [], _, h => h
  | p :: l, _, h => by
    obtain ⟨t, r, e1, h1, h2⟩ := h
    exact ⟨t, r, e1, e _ _ h1, h2.same e⟩
theorem xh.length {H : Hp} : ∀ {l : List (Int × Int)} {xs : List V}, xh H l xs → xs.length = l.length
  | [], _, h => by rw [show _ = [] from h]; rfl
  | p :: l, _, h => by
    obtain ⟨t, r, rfl, _, h2⟩ := h
    rw [List.length_cons, List.length_cons, h2.length]
theorem xh.snoc {H : Hp} {p : Int × Int} {t : Addr} (ht : H t = some (.tup [.int p.1, .int p.2])) : ∀ {l : List (Int × Int)} {xs : List V}, xh H l xs → xh H (l ++ [p]) (xs ++ [.ref t])
  | [], _, h => by
    rw [show _ = [] from h]
    exact ⟨t, [], rfl, ht, rfl⟩
  | q :: l, _, h => by
    obtain ⟨u, r, rfl, h1, h2⟩ := h
    exact ⟨u, r ++ [.ref t], rfl, h1, h2.snoc ht⟩
theorem xh.at {H : Hp} : ∀ {l : List (Int × Int)} {xs : List V} (i : Nat) {x : V}, xh H l xs → xs[i]? = some x → ∃ (t : Addr) (p : Int × Int), x = .ref t ∧ H t = some (.tup [.int p.1, .int p.2])
  | [], _, i, x, h, e => by
    rw [show _ = [] from h] at e
    cases e
  | p :: l, _, i, x, h, e => by
    obtain ⟨t, r, rfl, h1, h2⟩ := h
    cases i with
    | zero =>
      cases e
      exact ⟨t, p, rfl, h1⟩
    | succ i => exact h2.at i (by simpa using e)
noncomputable def va (p : Pict) (i j : Nat) : Cel := (p.getD i []).getD j (Str.ofString "", 0)
theorem YY {p : Pict} {w h : Nat} (ip : IsPic p w h) {i j : Nat} (hi : i < h) (hj : j < w) : ∃ r, p[i]? = some r ∧ r.length = w ∧ r[j]? = some (va p i j) ∧ okC (va p i j) := by
  have hl : i < p.length := by rw [ip.hh]; exact hi
  have hm : p[i] ∈ p := List.getElem_mem hl
  have hw := ip.ww _ hm
  have hj' : j < p[i].length := by rw [hw]; exact hj
  have e : va p i j = p[i][j] := by
    unfold va
    have e1 : p.getD i [] = p[i] := by rw [List.getD_eq_getElem?_getD, List.getElem?_eq_getElem hl, Option.getD_some]
    rw [e1, List.getD_eq_getElem?_getD, List.getElem?_eq_getElem hj', Option.getD_some]
  refine ⟨p[i], List.getElem?_eq_getElem hl, hw, ?_, ?_⟩
  · rw [e, List.getElem?_eq_getElem hj']
  · rw [e]
    exact ip.ok _ hm _ (List.getElem_mem hj')
end L2
namespace L2
open PySem PySem.Spec PyProof.Rows
noncomputable def Bld (K : PySem.W.Frag) (H0 H : Hp) (av : List Addr) (r : Addr) (ds : List PyData) : Prop := ∃ G vs, Same H0 G ∧ Same G H ∧ (∀ b ∈ r :: av, G b = none) ∧ H r = some (.lst vs) ∧ Reps K G ds vs
section
variable {K : PySem.W.Frag} {H0 H H1 : Hp} {av : List Addr} {r t l : Addr} {ds es : List PyData} {d : PyData}
theorem Bld.new (hs : Same H0 H) (ha : ∀ b ∈ av, H0 b = none) (hr : H r = none) : Bld K H0 (upd H r (.lst [])) av r [] := by
  refine ⟨H0, [], fun _ _ e => e, xg hs (hs.free hr), fun b hb => ?_, ze, rfl⟩
  rcases List.mem_cons.mp hb with z | z
  · rw [z]
    exact hs.free hr
  · exact ha b z
theorem Bld.same (b : Bld K H0 H av r ds) (hs : Same H H1) : Bld K H0 H1 av r ds := by
  obtain ⟨G, vs, h1, h2, h3, h4, h5⟩ := b
  exact ⟨G, vs, h1, h2.trans hs, h3, hs _ _ h4, h5⟩
theorem Bld.base (b : Bld K H0 H av r ds) : Same H0 H := by
  obtain ⟨G, vs, h1, h2, _⟩ := b
  exact h1.trans h2
theorem Bld.lst (b : Bld K H0 H av r ds) : ∃ vs, H r = some (.lst vs) ∧ vs.length = ds.length := by
  obtain ⟨G, vs, h1, h2, h3, h4, h5⟩ := b
  exact ⟨vs, h4, h5.length.symm⟩
theorem Bld.tup {cs vs : List V} (b : Bld K H0 H av r ds) (hv : H r = some (.lst vs)) (ha : ∀ c ∈ av, ∃ o, H c = some o) (ht : H t = none) (hc : ∀ G, Reps K G es cs) :
    Bld K H0 (upd (upd H t (.tup cs)) r (.lst (vs ++ [.ref t]))) av r (ds ++ [.tuple es]) := by
  obtain ⟨G, ws, h1, h2, h3, h4, h5⟩ := b
  rw [hv] at h4
  cases h4
  have nr : t ≠ r := fun z => by rw [z, hv] at ht; cases ht
  have gt : G t = none := h2.free ht
  refine ⟨upd G t (.tup cs), _, h1.trans (zP gt), fun c o q => ?_, fun c hc' => ?_, ze, ?_⟩
  · by_cases z : c = t
    · rw [z] at q ⊢
      rw [ze] at q
      rw [za nr, ze]
      exact q
    · rw [za z] at q
      have nc : c ≠ r := fun y => by rw [y, h3 r List.mem_cons_self] at q; cases q
      rw [za nc, za z]
      exact h2 _ _ q
  · have nc : c ≠ t := fun y => by
      rcases List.mem_cons.mp hc' with z | z
      · exact nr (y.symm.trans z)
      · obtain ⟨o, q⟩ := ha c z
        rw [y, ht] at q
        cases q
    rw [za nc]
    exact h3 c hc'
  · exact (Reps.same (zP gt) _ _ h5).snoc ⟨t, cs, rfl, SqT.of ze, hc _⟩
theorem Bld.row {vs : List V} {G : Hp} (h1 : Same H0 G) (h3 : ∀ b ∈ r :: av, G b = none) (h5 : Reps K G ds vs) (b : Bld K G H (r :: av) l es) (hv : H r = some (.lst vs)) (nl : ∀ c ∈ r :: av, c ≠ l) :
    Bld K H0 (upd H r (.lst (vs ++ [.ref l]))) av r (ds ++ [.list es]) := by
  obtain ⟨G2, us, k1, k2, k3, k4, k5⟩ := b
  have gl : G2 l = none := k3 l List.mem_cons_self
  have nr : l ≠ r := (nl r List.mem_cons_self).symm
  have sn : Same G2 (upd G2 l (.lst us)) := zP gl
  refine ⟨upd G2 l (.lst us), _, (h1.trans k1).trans sn, fun c o q => ?_, fun c hc => ?_, ze, ?_⟩
  · by_cases z : c = l
    · rw [z] at q ⊢
      rw [ze] at q
      rw [za nr, k4]
      exact q
    · rw [za z] at q
      have nc : c ≠ r := fun y => by rw [y, k3 r (List.mem_cons_of_mem _ List.mem_cons_self)] at q; cases q
      rw [za nc]
      exact k2 _ _ q
  · rw [za (nl c hc)]
    exact k3 c (List.mem_cons_of_mem _ hc)
  · exact (Reps.same (k1.trans sn) _ _ h5).snoc ⟨l, us, rfl, SqL.of ze, Reps.same sn _ _ k5⟩
theorem Bld.done (b : Bld K H0 H av r ds) : Rep K H (.list ds) (.ref r) := by
  obtain ⟨G, vs, h1, h2, h3, h4, h5⟩ := b
  exact ⟨r, vs, rfl, SqL.of h4, Reps.same h2 _ _ h5⟩
end
end L2
namespace L2
open PySem PySem.Spec PyProof.Rows
noncomputable def zT (K : PySem.W.Frag) (H0 H : Hp) (r : Addr) (p : Pict) : Prop := ∃ (G : Hp) (as : List Addr), Same H0 G ∧ Same G H ∧ (∀ a ∈ r :: as, G a = none) ∧ (r :: as).Nodup ∧ H r = some (.lst (as.map V.ref)) ∧ as.length = p.length ∧
  ∀ (i : Nat) row, p[i]? = some row → ∃ a us, as[i]? = some a ∧ H a = some (.lst us) ∧ Reps K G (row.map vB) us
section
variable {K : PySem.W.Frag} {H0 H H1 : Hp} {r b t : Addr} {p : Pict} {row : List Cel}
theorem zT.new (hs : Same H0 H) (hr : H r = none) : zT K H0 (upd H r (.lst [])) r [] := by
  refine ⟨H0, [], fun _ _ e => e, xg hs (hs.free hr), fun b hb => ?_, by simp, ze, rfl, fun i row q => by simp at q⟩
  rw [List.mem_singleton.mp hb]
  exact hs.free hr
theorem zT.same (g : zT K H0 H r p) (hs : Same H H1) : zT K H0 H1 r p := by
  obtain ⟨G, as, h1, h2, h3, h4, h5, h6, h7⟩ := g
  refine ⟨G, as, h1, h2.trans hs, h3, h4, hs _ _ h5, h6, fun i row q => ?_⟩
  obtain ⟨a, us, k1, k2, k3⟩ := h7 i row q
  exact ⟨a, us, k1, hs _ _ k2, k3⟩
theorem zT.base (g : zT K H0 H r p) : Same H0 H := by
  obtain ⟨G, as, h1, h2, _⟩ := g
  exact h1.trans h2
theorem zT.lst (g : zT K H0 H r p) : ∃ vs, H r = some (.lst vs) ∧ vs.length = p.length := by
  obtain ⟨G, as, h1, h2, h3, h4, h5, h6, h7⟩ := g
  exact ⟨_, h5, by rw [List.length_map]; exact h6⟩
theorem zT.put {ys vs : List V} {H2 : Hp} (g : zT K H0 H r p) (hv : H r = some (.lst vs)) (hy : Reps K H0 (row.map vB) ys) (hb : H b = none) (hs : Same H H2) (hb2 : H2 b = some (.lst ys)) : zT K H0 (upd H2 r (.lst (vs ++ [.ref b]))) r (p ++ [row]) := by
  obtain ⟨G, as, h1, h2, h3, h4, h5, h6, h7⟩ := g
  rw [hv] at h5
  have h5 : vs = as.map V.ref := by cases h5; rfl
  subst h5
  have nb : ∀ (c : Addr) (o : HO), H c = some o → c ≠ b := fun c o q z => by
    rw [z, hb] at q
    cases q
  have inH : ∀ c ∈ as, ∃ o, H c = some o := fun c hc => by
    obtain ⟨i, hi, e⟩ := List.getElem_of_mem hc
    obtain ⟨a, us, k1, k2, _⟩ := h7 i _ (List.getElem?_eq_getElem (h6 ▸ hi))
    rw [List.getElem?_eq_getElem hi] at k1
    cases k1
    exact ⟨_, e ▸ k2⟩
  have nr := nb r _ hv
  have nin : b ∉ as := fun z => by
    obtain ⟨o, q⟩ := inH b z
    exact nb b o q rfl
  obtain ⟨n1, n2⟩ := List.nodup_cons.mp h4
  refine ⟨G, as ++ [b], h1, fun c o q => ?_, fun c hc => ?_, ?_, by rw [List.map_append]; exact ze, by simp [h6], fun i y q => ?_⟩
  · have c1 : c ≠ r := fun z => by rw [z, h3 r List.mem_cons_self] at q; cases q
    rw [za c1]
    exact hs _ _ (h2 _ _ q)
  · rcases List.mem_cons.mp hc with z | z
    · rw [z]
      exact h3 r List.mem_cons_self
    · rcases List.mem_append.mp z with z | z
      · exact h3 c (List.mem_cons_of_mem _ z)
      · rw [List.mem_singleton.mp z]
        exact h2.free hb
  · rw [List.nodup_cons]
    refine ⟨fun z => ?_, List.nodup_append.mpr ⟨n2, by simp, fun x hx y hy z => ?_⟩⟩
    · rcases List.mem_append.mp z with z | z
      · exact n1 z
      · exact nr (List.mem_singleton.mp z)
    · rw [z, List.mem_singleton.mp hy] at hx
      exact nin hx
  · by_cases hi : i < p.length
    · rw [List.getElem?_append_left hi] at q
      obtain ⟨a, us, k1, k2, k3⟩ := h7 i y q
      have ar : a ≠ r := fun z => n1 (z ▸ List.mem_of_getElem? k1)
      exact ⟨a, us, by rw [List.getElem?_append_left (h6 ▸ hi)]; exact k1, by rw [za ar]; exact hs _ _ k2, k3⟩
    · have e : i = p.length := by
        have := (List.getElem?_eq_some_iff.mp q).1
        simp at this
        omega
      subst e
      simp only [List.getElem?_concat_length, Option.some.injEq] at q
      subst q
      exact ⟨b, ys, by rw [← h6]; simp, by rw [za nr.symm]; exact hb2, Reps.same h1 _ _ hy⟩
theorem zT.push {ys vs : List V} (g : zT K H0 H r p) (hv : H r = some (.lst vs)) (hy : Reps K H0 (row.map vB) ys) (hb : H b = none) : zT K H0 (upd (upd H b (.lst ys)) r (.lst (vs ++ [.ref b]))) r (p ++ [row]) := g.put hv hy hb (zP hb) ze
theorem Reps.set {G : Hp} : ∀ {ds : List PyData} {xs : List V} (j : Nat) {d : PyData} {x : V}, Reps K G ds xs → Rep K G d x → Reps K G (ds.set j d) (xs.set j x)
  | [], _, j, d, x, h, _ => by
    rw [show _ = [] from h]
    rfl
  | d0 :: ds, _, j, d, x, h, h' => by
    obtain ⟨y, q, rfl, h1, h2⟩ := h
    cases j with
    | zero => exact ⟨x, q, rfl, h', h2⟩
    | succ j => exact ⟨y, _, rfl, h1, h2.set j h'⟩
theorem VO {c : Cel} {u : V} (h : Rep K H (vB c) u) : ∃ t, u = .ref t ∧ SqT K H t [.str c.1, .int c.2] := by
  obtain ⟨t, xs, rfl, h1, x1, q1, rfl, e1, x2, q2, rfl, e2, e3⟩ := h
  cases e1
  cases e2
  cases e3
  exact ⟨t, rfl, h1⟩
theorem zT.cell {i j : Nat} {c : Cel} (g : zT K H0 H r p) (hi : p[i]? = some row) (hj : row[j]? = some c) : ∃ vs a us t, H r = some (.lst vs) ∧ atI vs (i : Int) = some (.ref a) ∧ H a = some (.lst us) ∧ us.length = row.length ∧ atI us (j : Int) = some (.ref t) ∧ SqT K H t [.str c.1, .int c.2] ∧
    ∀ H2 t2 z n, Same H H2 → H2 t2 = none → zT K H0 (upd (upd H2 t2 (.tup [.str z, .int n])) a (.lst (us.set j (.ref t2)))) r (p.set i (row.set j (z, n))) := by
  obtain ⟨G, as, h1, h2, h3, h4, h5, h6, h7⟩ := g
  obtain ⟨a, us, k1, k2, k3⟩ := h7 i row hi
  obtain ⟨u, hu, ru⟩ := k3.at j (d := vB c) (by rw [List.getElem?_map, hj]; rfl)
  obtain ⟨t, rfl, ht⟩ := VO (Rep.same h2 _ _ ru)
  obtain ⟨n1, n2⟩ := List.nodup_cons.mp h4
  have am : a ∈ as := List.mem_of_getElem? k1
  have ar : a ≠ r := fun z => n1 (z ▸ am)
  refine ⟨_, a, us, t, h5, y6 (by rw [List.getElem?_map, k1]; rfl), k2, by rw [← k3.length, List.length_map], y6 hu, ht, fun H2 t2 z n hs ht2 => ?_⟩
  have nt : ∀ (b : Addr) (o : HO), H2 b = some o → b ≠ t2 := fun b o q y => by
    rw [y, ht2] at q
    cases q
  have gt : G t2 = none := (h2.trans hs).free ht2
  have sn : Same G (upd G t2 (.tup [.str z, .int n])) := zP gt
  refine ⟨upd G t2 (.tup [.str z, .int n]), as, h1.trans sn, fun b o q => ?_, fun b hb => ?_, h4, ?_, by rw [List.length_set]; exact h6, fun i' y q => ?_⟩
  · have na : b ≠ a := fun y => by
      rw [y] at q
      by_cases w : a = t2
      · exact nt a _ (hs _ _ k2) w
      · rw [za w, h3 a (List.mem_cons_of_mem _ am)] at q
        cases q
    rw [za na]
    by_cases w : b = t2
    · rw [w] at q ⊢
      rw [ze] at q ⊢
      exact q
    · rw [za w] at q ⊢
      exact hs _ _ (h2 _ _ q)
  · have nb : b ≠ t2 := by
      rcases List.mem_cons.mp hb with y | y
      · rw [y]
        exact nt r _ (hs _ _ h5)
      · obtain ⟨k, hk, e⟩ := List.getElem_of_mem y
        obtain ⟨a', us', m1, m2, _⟩ := h7 k _ (List.getElem?_eq_getElem (h6 ▸ hk))
        rw [List.getElem?_eq_getElem hk] at m1
        cases m1
        rw [← e]
        exact nt _ _ (hs _ _ m2)
    rw [za nb]
    exact h3 b hb
  · rw [za ar.symm, za (nt r _ (hs _ _ h5))]
    exact hs _ _ h5
  · by_cases e : i' = i
    · subst e
      have hl : i' < p.length := (List.getElem?_eq_some_iff.mp hi).1
      rw [List.getElem?_set_self hl] at q
      cases q
      refine ⟨a, _, k1, ze, ?_⟩
      rw [List.map_set]
      exact (Reps.same sn _ _ k3).set j ⟨t2, _, rfl, SqT.of ze, .str z, _, rfl, rfl, .int n, [], rfl, rfl, rfl⟩
    · rw [List.getElem?_set_ne (Ne.symm e)] at q
      obtain ⟨a', us', m1, m2, m3⟩ := h7 i' y q
      have na : a' ≠ a := fun w => by
        rw [w] at m1
        have l1 := (List.getElem?_eq_some_iff.mp m1)
        have l2 := (List.getElem?_eq_some_iff.mp k1)
        exact e ((List.getElem_inj n2).mp (l1.2.trans l2.2.symm))
      exact ⟨a', us', m1, by rw [za na, za (nt a' _ (hs _ _ m2))]; exact hs _ _ m2, Reps.same sn _ _ m3⟩
theorem zT.done (g : zT K H0 H r p) : Rep K H (Jy p) (.ref r) := by
  obtain ⟨G, as, h1, h2, h3, h4, h5, h6, h7⟩ := g
  refine ⟨r, _, rfl, SqL.of h5, ?_⟩
  clear h5 h4 h3
  induction p generalizing as with
  | nil =>
    cases as with
    | nil => rfl
    | cons _ _ => cases h6
  | cons y p ih =>
    cases as with
    | nil => cases h6
    | cons a as =>
      obtain ⟨a', us, k1, k2, k3⟩ := h7 0 y rfl
      cases k1
      exact ⟨.ref a, as.map V.ref, rfl, ⟨a, us, rfl, SqL.of k2, Reps.same h2 _ _ k3⟩, ih as (by simpa using h6) fun i z q => h7 (i + 1) z (by simpa using q)⟩
end
end L2
namespace L2
open PySem PySem.Spec PyProof.Rows
section
variable {X : Cx} {K : PySem.W.Frag}
theorem yd (h : X.K = K) : SlR X (YO K) := by
  subst h
  exact VJ
theorem yM (h : X.K = K) : IxR X (jd K) := by
  subst h
  exact VI
end
end L2
namespace L2
open PySem PySem.Spec PyProof.Rows
noncomputable def YZ (K : PySem.W.Frag) : R2 := fun x y H Q => ∃ l b xs zs, x = .ref l ∧ y = .ref b ∧ SqL K H l xs ∧ SqL K H b zs ∧ xs.length + zs.length ≤ sizeLine ∧ ∀ p, H p = none → Q (.ref p) (upd H p (.lst (xs ++ zs)))
theorem xi {X : Cx} {K : PySem.W.Frag} (hK : X.K = K) : OpR X (binaryOp .Add) (YZ K) := by
  subst hK
  intro pins s σ H x y v u Q I rx ry h
  obtain ⟨l, b, xs, zs, rfl, rfl, hH, hB, hz, q⟩ := h
  cases rx
  cases ry
  obtain ⟨its, r, ⟨o1, n1, e1, c1, d1, m1⟩, z1⟩ := I.list hH
  obtain ⟨ita, r2, ⟨o2, n2, e2, c2, d2, m2⟩, z2⟩ := I.list hB
  obtain ⟨g1, g2, g3, g4⟩ := o1
  obtain ⟨f1, f2, f3, f4⟩ := o2
  simp only at c1 d1 m1 c2 d2 m2
  subst c1 d1 m1 c2 d2 m2
  have hs : its.length + ita.length ≤ sizeLine := by
    rw [← r.length, ← r2.length]
    exact hz
  have ea : its.toArray ++ ita.toArray = (its ++ ita).toArray := by simp
  refine concat_meets ⟨_, e1, rfl⟩ ⟨_, e2, rfl⟩ noFill_list_add seq_list_add F.slot_list_add F.entry_list_add (F.args_list_add_2 _ _) (list_addW l b its.toArray ita.toArray n1 n2 none none g4 f4 (by simpa using hs)) ⟨e1, e2, ?_⟩
  rw [ea]
  exact ⟨.ref _, _, I.lnew (t' := s.toks) (r.append r2) (by rw [List.length_append]; omega), rfl, q _ I.fresh⟩
theorem Reps.drop {K : PySem.W.Frag} {H : Hp} : ∀ {ds : List PyData} {xs : List V} (k : Nat), Reps K H ds xs → Reps K H (ds.drop k) (xs.drop k)
  | [], _, k, h => by
    rw [show _ = [] from h]
    simp only [List.drop_nil]
    rfl
  | d :: ds, _, k, h => by
    obtain ⟨y, q, rfl, h1, h2⟩ := h
    cases k with
    | zero => exact ⟨y, q, rfl, h1, h2⟩
    | succ k => exact h2.drop k
theorem Reps.take {K : PySem.W.Frag} {H : Hp} : ∀ {ds : List PyData} {xs : List V} (k : Nat), Reps K H ds xs → Reps K H (ds.take k) (xs.take k)
  | [], _, k, h => by
    rw [show _ = [] from h]
    simp only [List.take_nil]
    rfl
  | d :: ds, _, k, h => by
    obtain ⟨y, q, rfl, h1, h2⟩ := h
    cases k with
    | zero => rfl
    | succ k => exact ⟨y, _, rfl, h1, h2.take k⟩
theorem Reps.append {K : PySem.W.Frag} {H : Hp} : ∀ {ds es : List PyData} {xs ys : List V}, Reps K H ds xs → Reps K H es ys → Reps K H (ds ++ es) (xs ++ ys)
  | [], _, _, _, h, h' => by
    rw [show _ = [] from h]
    exact h'
  | d :: ds, _, _, _, h, h' => by
    obtain ⟨y, q, rfl, h1, h2⟩ := h
    exact ⟨y, _, rfl, h1, h2.append h'⟩
theorem IsPic.more {p : Pict} {w h : Nat} (ip : IsPic p w h) (h2 : h < 12) : IsPic (p ++ p.take 1) w (h + 1) := by
  have hm : ∀ r, r ∈ p ++ p.take 1 → r ∈ p := fun r hr => (List.mem_append.mp hr).elim id List.mem_of_mem_take
  have := ip.h1
  exact ⟨by rw [List.length_append, List.length_take, ip.hh]; omega, fun r hr => ip.ww r (hm r hr), fun r hr => ip.ok r (hm r hr), ip.w1, ip.w2, by omega, by omega⟩
theorem IsPic.rows {p : Pict} {w h w' : Nat} (g : List Cel → List Cel) (ip : IsPic p w h) (hg : ∀ r ∈ p, (g r).length = w') (hm : ∀ r c, c ∈ g r → c ∈ r) (h1 : 1 ≤ w') (h2 : w' ≤ 24) : IsPic (p.map g) w' h := by
  refine ⟨by rw [List.length_map, ip.hh], fun r hr => ?_, fun r hr c hc => ?_, h1, h2, ip.h1, ip.h2⟩
  · obtain ⟨y, hy, rfl⟩ := List.mem_map.mp hr
    exact hg y hy
  · obtain ⟨y, hy, rfl⟩ := List.mem_map.mp hr
    exact ip.ok y hy c (hm y c hc)
noncomputable def XW (p : Pict) (h w : Nat) : Pict := (List.range w).map fun c => (List.range h).map fun i => va p i c
theorem IsPic.turn {p : Pict} {w h : Nat} (ip : IsPic p w h) (hw : w ≤ 12) : IsPic (XW p h w) h w := by
  refine ⟨by simp [XW], fun r hr => ?_, fun r hr c hc => ?_, ip.h1, by have := ip.h2; omega, ip.w1, hw⟩
  · obtain ⟨y, _, rfl⟩ := List.mem_map.mp hr
    simp
  · obtain ⟨y, hy, rfl⟩ := List.mem_map.mp hr
    obtain ⟨i, hi, rfl⟩ := List.mem_map.mp hc
    obtain ⟨_, _, _, _, ok⟩ := YY ip (List.mem_range.mp hi) (List.mem_range.mp hy)
    exact ok
end L2
namespace L2
open PySem PySem.Spec PyProof.Rows
theorem ZS (o : Obj) (f : Array Value → Array Value) : (o.mapFields f).dict = o.dict := by
  rcases o with ⟨_, _, q, _⟩
  cases q <;> rfl
noncomputable def Fly (h : Heap) (e C : Addr) (fp : List Addr) : Prop := ∃ oe vs, h.get? e = some oe ∧ (oe.cls = .ref C ∧ oe.dict = none) ∧ oe.data = .fields vs ∧ 1 < vs.size ∧
  ((vs[1]? = some .none ∧ fp = [e]) ∨ ∃ T oT ts, vs[1]? = some (.ref T) ∧ T ≠ e ∧ h.get? T = some oT ∧ oT.data = .fields ts ∧ ts[3]? = some .none ∧ fp = [e, T])
theorem Fly.mem {h : Heap} {e C : Addr} {fp : List Addr} (F : Fly h e C fp) : ∀ b ∈ fp, ∃ o vs, h.get? b = some o ∧ o.data = .fields vs := by
  obtain ⟨oe, vs, he, _, hd, _, ⟨_, rfl⟩ | ⟨T, oT, ts, _, _, hT, hdT, _, rfl⟩⟩ := F
  · intro b hb
    cases List.mem_singleton.mp hb
    exact ⟨oe, vs, he, hd⟩
  · intro b hb
    rcases List.mem_cons.mp hb with rfl | hb
    · exact ⟨oe, vs, he, hd⟩
    · cases List.mem_singleton.mp hb
      exact ⟨oT, ts, hT, hdT⟩
theorem Fly.self {h : Heap} {e C : Addr} {fp : List Addr} (F : Fly h e C fp) : e ∈ fp := by
  obtain ⟨_, _, _, _, _, _, ⟨_, rfl⟩ | ⟨_, _, _, _, _, _, _, _, rfl⟩⟩ := F <;> exact List.mem_cons_self
theorem Fly.keep {h h' : Heap} {e C : Addr} {fp : List Addr} (F : Fly h e C fp) (k : ∀ b ∈ fp, ∀ o, h.get? b = some o → h'.get? b = some o) : Fly h' e C fp := by
  have hs := F.self
  obtain ⟨oe, vs, he, hc, hd, hz, h1 | ⟨T, oT, ts, h1, h2, hT, hdT, h3, rfl⟩⟩ := F
  · exact ⟨oe, vs, k _ hs _ he, hc, hd, hz, .inl h1⟩
  · exact ⟨oe, vs, k _ hs _ he, hc, hd, hz, .inr ⟨T, oT, ts, h1, h2, k _ (by simp) _ hT, hdT, h3, rfl⟩⟩
section
variable {M : Model} {A : Around} {E : Value → Shared → Prop} {s : Shared}
structure Noted (fs fp : List Addr) (h h' : Heap) : Prop where
  keep : ∀ b o, h.get? b = some o → b ∉ fp → b ∉ fs → h'.get? b = some o
  slot : ∀ b o, h.get? b = some o → b ∉ fp → ∃ sl, h'.get? b = some { o with slots := sl }
  there : ∀ b o, h.get? b = some o → ∃ o', h'.get? b = some o'
theorem Noted.size {fs fp : List Addr} {h h' : Heap} (n : Noted fs fp h h') (hp : h'.objs.size < h.objs.size → False) : h.objs.size ≤ h'.objs.size := Nat.not_lt.mp hp
theorem jj {base : Heap} {env : Env} {outer : List Env} {L e C : Addr} {oe : Obj} {vs : Array Value} {head : Value} {hadNext : Bool} {Q : Unit → Shared → Prop}
    (hfr : A.frames = some (env :: outer)) (hl : s.heap.FunFrames base (env :: outer)) (hf : env.frame = some L) (he : s.heap.get? e = some oe) (hc : oe.cls = .ref C ∧ oe.dict = none) (hd : oe.data = .fields vs) (hz : 1 < vs.size)
    (h : ∀ h' T, s.heap.objs.size ≤ T → s.heap.objs.size ≤ h'.objs.size → Noted (frs (env :: outer)) [e] s.heap h' → Fly h' e C [e, T] → Q () { s with heap := h' }) :
    wpAny M A (do let a ← frameOf env; let pl ← entryPlaceOf L hadNext; let b ← EntryCells.newEntry head a .none (rawInt L) .none pl; setField (.ref e) 1 b) (fun _ s' => wpAny M A (setFlight (.ref e) none) Q E s') E s := by
  have ef : e ∉ frs (env :: outer) := fun hm => by
    obtain ⟨_, o, ho, hn⟩ := hl.mem hm
    rw [he] at ho
    cases ho
    exact hn vs hd
  refine wpAny_bind (wpAny_frameOf_fun hfr hl hf fun h1 s1 => ?_)
  refine wpAny_bind (wpAny_entryPlaceOf fun pl hp => ?_)
  unfold EntryCells.newEntry newFields
  refine wpAny_bind (wpAny_newObj_type ?_ (hp.sizeOk5 _ _ _ _ _))
  generalize hO : ({ cls := .type "traceback", dict := none, data := .fields ([head, .ref L, .none, rawInt L, .none] ++ (if pl.isEmpty then List.replicate 6 Value.none else pl)).toArray } : Obj) = O
  have he1 : h1.get? e = some oe := (s1.2.1 e ef).trans he
  have he2 : (h1.push O).get? e = some oe := Heap.get?_push_of_some _ he1
  refine wpAny_setField he2 hd hz ?_
  have nTe : h1.objs.size ≠ e := Nat.ne_of_gt (Heap.lt_size he1)
  have hd3 := Obj.data_mapFields hd (·.setIfInBounds 1 (Value.ref h1.objs.size))
  have he3 := Heap.get?_update_self (Obj.mapFields (·.setIfInBounds 1 (Value.ref h1.objs.size))) he2 (Obj.isFreed_of_fields hd3)
  have hOd : O.data = .fields ([head, .ref L, .none, rawInt L, .none] ++ (if pl.isEmpty then List.replicate 6 Value.none else pl)).toArray := by rw [← hO]
  have hOf : O.isFreed = false := Obj.isFreed_of_fields hOd
  have hT3 : ((h1.push O).update e (Obj.mapFields (·.setIfInBounds 1 (Value.ref h1.objs.size)))).get? h1.objs.size = some O := (Heap.get?_update_other (h1.push O) (Obj.mapFields (·.setIfInBounds 1 (Value.ref h1.objs.size))) (Ne.symm nTe)).trans (Heap.get?_push_size h1 hOf)
  unfold setFlight
  refine wpAny_bind (wpAny_field he3 hd3 (x := .ref h1.objs.size) (by simp [hz]) ?_)
  rw [if_pos (show (Value.ref h1.objs.size != Value.none) = true from by simp)]
  have h3 : 3 < ([head, .ref L, .none, rawInt L, .none] ++ (if pl.isEmpty then List.replicate 6 Value.none else pl)).toArray.size := by
    simp only [List.size_toArray, List.length_append, List.length_cons, List.length_nil]
    omega
  have kp : ∀ b o, b ≠ e → h1.get? b = some o → (((h1.push O).update e (Obj.mapFields (·.setIfInBounds 1 (Value.ref h1.objs.size)))).update h1.objs.size (Obj.mapFields (·.setIfInBounds 3 ((none : Option Addr).elim Value.none fun f => rawInt f)))).get? b = some o := fun b o hb q => by
    rw [Heap.get?_update_other _ _ (Nat.ne_of_gt (Heap.lt_size q)), Heap.get?_update_other _ _ (Ne.symm hb)]
    exact Heap.get?_push_of_some _ q
  have hd4 := Obj.data_mapFields hOd (·.setIfInBounds 3 ((none : Option Addr).elim Value.none fun f => rawInt f))
  have he4 : (((h1.push O).update e (Obj.mapFields (·.setIfInBounds 1 (Value.ref h1.objs.size)))).update h1.objs.size (Obj.mapFields (·.setIfInBounds 3 ((none : Option Addr).elim Value.none fun f => rawInt f)))).get? e = some (oe.mapFields (·.setIfInBounds 1 (Value.ref h1.objs.size))) :=
    (Heap.get?_update_other _ _ nTe).trans he3
  refine wpAny_setField hT3 hOd h3 (h _ h1.objs.size (Nat.le_of_eq s1.1.symm) ?_ ⟨?_, ?_, ?_⟩ ?_)
  · rw [Heap.size_after_update, Heap.size_after_update, Heap.size_push, s1.1]
    exact Nat.le_succ _
  · intro b o q nb nf
    exact kp b o (fun z => nb (by simp [z])) ((s1.2.1 b nf).trans q)
  · intro b o q nb
    obtain ⟨sl, q2⟩ := s1.2.2 b o q
    exact ⟨sl, kp b _ (fun z => nb (by simp [z])) q2⟩
  · intro b o q
    by_cases z : b = e
    · rw [z]
      exact ⟨_, he4⟩
    · obtain ⟨sl, q2⟩ := s1.2.2 b o q
      exact ⟨_, kp b _ z q2⟩
  · refine ⟨_, _, he4, ⟨(Obj.cls_mapFields _ _).trans hc.1, (ZS _ _).trans hc.2⟩, hd3, by simpa using hz, .inr ⟨_, _, _, by simp [hz], nTe, Heap.get?_update_self _ hT3 (Obj.isFreed_of_fields hd4), hd4, ?_, rfl⟩⟩
    rw [Array.getElem?_setIfInBounds_self_of_lt h3]
    rfl
theorem kl {base : Heap} {env : Env} {outer : List Env} {L e C : Addr} {fp : List Addr} {Q : Unit → Shared → Prop}
    (hfr : A.frames = some (env :: outer)) (hl : s.heap.FunFrames base (env :: outer)) (hf : env.frame = some L) (F : Fly s.heap e C fp)
    (h : ∀ h' T, s.heap.objs.size ≤ T → s.heap.objs.size ≤ h'.objs.size → Noted (frs (env :: outer)) fp s.heap h' → Fly h' e C [e, T] → Q () { s with heap := h' }) :
    wpAny M A (noteFrame (.ref e) env) (fun _ s' => wpAny M A (setFlight (.ref e) none) Q E s') E s := by
  obtain ⟨oe, vs, he, hc, hd, hz, ⟨h1, rfl⟩ | ⟨T, oT, ts, h1, nT, hT, hdT, h3, rfl⟩⟩ := F
  · unfold noteFrame
    simp only [hf]
    refine wpAny_bind (wpAny_field he hd h1 ?_)
    rw [if_neg (by decide)]
    exact jj hfr hl hf he hc hd hz h
  · unfold noteFrame
    simp only [hf]
    refine wpAny_bind (wpAny_field he hd h1 ?_)
    rw [if_pos (show (Value.ref T != Value.none) = true from by simp)]
    refine wpAny_bind (wpAny_field hT hdT h3 ?_)
    rw [if_neg (show ¬ ((Value.none == rawInt L) = true) from by simp [rawInt])]
    refine wpAny_bind (wpAny_setField hT hdT (Array.getElem?_eq_some_iff.mp h3).1 ?_)
    have oth : ∀ b, b ≠ T → (s.heap.update T (Obj.mapFields (·.setIfInBounds 3 Value.none))).get? b = s.heap.get? b := fun b hb => Heap.get?_update_other _ _ (Ne.symm hb)
    have hd4 := Obj.data_mapFields hdT (·.setIfInBounds 3 Value.none)
    have hT4 := Heap.get?_update_self (Obj.mapFields (·.setIfInBounds 3 Value.none)) hT (Obj.isFreed_of_fields hd4)
    have noR : ∀ b o, s.heap.get? b = some o → (∀ vs, o.data ≠ .fields vs) → b ≠ T := fun b o hb hn z => by
      rw [z, hT] at hb
      cases hb
      exact hn ts hdT
    refine jj (s := { s with heap := s.heap.update T (Obj.mapFields (·.setIfInBounds 3 Value.none)) }) hfr (hl.of_keeps fun b o hb hn => ⟨o, (oth b (noR b o hb hn)).trans hb, rfl⟩) hf ((oth e (Ne.symm nT)).trans he) hc hd hz fun h' T' z1 z2 N F' => ?_
    have sz : (s.heap.update T (Obj.mapFields (·.setIfInBounds 3 Value.none))).objs.size = s.heap.objs.size := Heap.size_after_update _ _ _
    have z1' : s.heap.objs.size ≤ T' := by rw [← sz]; exact z1
    have z2' : s.heap.objs.size ≤ h'.objs.size := by rw [← sz]; exact z2
    refine h h' T' z1' z2' ⟨fun b o q nb nf => ?_, fun b o q nb => ?_, fun b o q => ?_⟩ F'
    · have nbT : b ≠ T := fun z => nb (by simp [z])
      exact N.keep b o ((oth b nbT).trans q) (fun z => nb (by rw [List.mem_singleton] at z; simp [z])) nf
    · have nbT : b ≠ T := fun z => nb (by simp [z])
      exact N.slot b o ((oth b nbT).trans q) (fun z => nb (by rw [List.mem_singleton] at z; simp [z]))
    · by_cases z : b = T
      · rw [z]
        exact N.there T _ hT4
      · exact N.there b o ((oth b z).trans q)
theorem Y0 {base : Heap} {env : Env} {outer : List Env} {L e C : Addr} {fp : List Addr} {Q : Unit → Shared → Prop}
    (hfr : A.frames = some (env :: outer)) (hl : s.heap.FunFrames base (env :: outer)) (hf : env.frame = some L) (F : Fly s.heap e C fp)
    (h : ∀ h' T, s.heap.objs.size ≤ T → s.heap.objs.size ≤ h'.objs.size → Noted (frs (env :: outer)) fp s.heap h' → Fly h' e C [e, T] → Q () { s with heap := h' }) :
    wpAny M A (leaving env (.ref e)) Q E s := by
  unfold leaving
  exact wpAny_bind (kl hfr hl hf F h)
end
noncomputable def CX1 (P : Program) (w : World) : CXT := fun outer H s E ev s' => ∃ e C fp H', ev = .ref e ∧ Fly s'.heap e C fp ∧ (∀ b ∈ fp, s.heap.get? b = none ∧ H' b = none) ∧ s'.os = s.os ∧ AllBare s'.gens ∧ Un (frs outer) [] H H' s.heap s'.heap ∧ HOk P w H' s'.heap ∧ E (.ref C) none H'
noncomputable def FpX (X : Cx) (pins : List (Addr × Obj)) (H : Hp) (b : Addr) : Prop :=
  H b = none ∧ b ≠ X.env.locals ∧ b ∉ X.fs ∧ (b ∈ X.ex ∨ X.s₀.heap.get? b = none) ∧ (∀ x c, X.env.cells.lookup x = some c → c ≠ b) ∧ ∀ p ∈ X.pn ++ pins, p.1 ≠ b
theorem Inv.fpX {X : Cx} {pins : List (Addr × Obj)} {σ : St} {H H' : Hp} {s : Shared} {b : Addr} (I : Inv X pins σ H s) (hb : s.heap.get? b = none) (hn : H' b = none) : FpX X pins H' b := by
  have no : ∀ c o, s.heap.get? c = some o → c ≠ b := fun c o q z => by
    rw [z, hb] at q
    cases q
  refine ⟨hn, fun z => ?_, fun z => ?_, ?_, fun x c q => ?_, fun p hp => no _ _ (I.pin p hp).1⟩
  · obtain ⟨m, ⟨o, _, _, ho, _⟩, _⟩ := I.loc
    exact no _ _ ho z.symm
  · obtain ⟨_, o, ho, _⟩ := I.funs.mem z
    exact no _ _ ho rfl
  · by_cases hx : b ∈ X.ex
    · exact .inl hx
    · refine .inr ?_
      cases q : X.s₀.heap.get? b with
      | none => rfl
      | some o =>
        obtain ⟨o', q'⟩ := I.base.there b o q hx
        exact absurd rfl (no _ _ q')
  · obtain ⟨v, o, ho, _⟩ := I.cell x c q
    exact no _ _ ho
noncomputable def Up (X : Cx) (W : XK) (ev : Value) (s' : Shared) : Prop := ∃ pins σ H e C fp, ev = .ref e ∧ Inv X pins σ H s' ∧ Fly s'.heap e C fp ∧ (∀ b ∈ fp, FpX X pins H b) ∧ W (.ref C) none H
noncomputable def vp (X : Cx) (W : XK) : Prop := ∀ ev s', Up X W ev s' → X.xe ev s'
theorem vp.passes {X : Cx} {W : XK} (L : vp X W) : xH (CX1 X.prog X.w) X W := by
  rintro pins σ H s ev s' I ⟨e, C, fp, H', rfl, F, hf, os, bare, un, hok, hw⟩
  have I' : Inv X pins σ H' s' := I.call' (ch := []) os un hok bare fun b z => absurd z (by simp)
  exact L _ _ ⟨pins, σ, H', e, C, fp, rfl, I', F, fun b hb => I.fpX (H' := H') (hf b hb).1 (hf b hb).2, hw⟩
theorem qq {P : Program} {w : World} {K : PySem.W.Frag} {mg : Str → Option Value} {base : Heap} {N : List Str} {qual : Str} {scope : Scope} {f : Addr} {cd : Value} {A : Around} {outer : List Env} {s : Shared} {H : Hp} {E : XK} :
    vp (cxOf (CX1 P w) P w K mg base N qual scope f cd A outer s H E) E := by
  rintro ev s' ⟨pins, σ, H', e, C, fp, rfl, I, F, hf, hw⟩
  show wpAny (model P w) _ (leaving _ (.ref e)) _ _ s'
  refine Y0 (base := base) (outer := outer) (L := s.heap.objs.size) I.ok.frames I.stack rfl F fun h' T z1 z2 N F' => ?_
  have fz : ∀ b ∈ fp, s.heap.get? b = none ∧ H' b = none := fun b hb => by
    obtain ⟨k0, _, _, k1, _⟩ := hf b hb
    rcases k1 with k1 | k1
    · exact absurd (show b ∈ ([] : List Addr) from k1) (by simp)
    · exact ⟨k1, k0⟩
  have old : ∀ b o, s.heap.get? b = some o → b ∉ fp := fun b o q z => by
    rw [(fz b z).1] at q
    cases q
  have u := I.base
  have notr : ∀ b o, H' b = some o → b ∉ fp ∧ b ∉ frs (envOfC qual scope s.heap.objs.size f cd :: outer) := fun b o q => by
    refine ⟨fun z => ?_, fun z => ?_⟩
    · rw [(fz b z).2] at q
      cases q
    · rw [I.stkFree b z] at q
      cases q
  refine ⟨e, C, [e, T], H', rfl, F', fun b hb => ?_, I.os, I.bare, ⟨fun b o q n hb hx => ?_, fun b o q n hb hx => ?_, u.free, fun b o q hx => ?_, u.tups, u.frzs, u.tbls⟩, fun b ob q => ?_, hw⟩
  · rcases List.mem_cons.mp hb with rfl | hb
    · exact fz _ F.self
    · cases List.mem_singleton.mp hb
      exact ⟨Heap.get?_none_of_le (Nat.le_trans I.sz z1), I.hok.fresh z1⟩
  · refine N.keep b o (u.keep b o q n hb hx) (old b o q) fun z => ?_
    rcases List.mem_cons.mp z with z | z
    · exact absurd (Heap.lt_size q) (by rw [z]; exact Nat.lt_irrefl _)
    · exact hb z
  · obtain ⟨sl, q1⟩ := u.slot b o q n hb hx
    obtain ⟨sl', q2⟩ := N.slot b _ q1 (old b o q)
    exact ⟨sl', q2⟩
  · obtain ⟨o', q1⟩ := u.there b o q hx
    exact N.there b o' q1
  · refine (I.hok b ob q).stay (fun c w' hc q2 => ?_) (fun _ z => z) fun _ _ z => z
    have hcH : ∃ o, H' c = some o := by
      rcases hc with z | z
      · rw [z]
        exact ⟨_, q⟩
      · exact ⟨_, z⟩
    obtain ⟨oc, hoc⟩ := hcH
    exact N.keep c w' q2 (notr c oc hoc).1 (notr c oc hoc).2
theorem Inv.noted {X : Cx} {pins : List (Addr × Obj)} {σ : St} {H : Hp} {s : Shared} {h' : Heap} {fp : List Addr} (I : Inv X pins σ H s) (N : Noted (frs X.stack) fp s.heap h') (hf : ∀ b ∈ fp, FpX X pins H b) : Inv X pins σ H { s with heap := h' } := by
  have old : ∀ b o, X.s₀.heap.get? b = some o → b ∉ X.ex → b ∉ fp := fun b o q hx z => by
    rcases (hf b z).2.2.2.1 with k | k
    · exact hx k
    · rw [k] at q
      cases q
  have far : ∀ b, b ≠ X.env.locals → b ∉ X.fs → b ∉ frs X.stack := fun b h1 h2 z => (List.mem_cons.mp (I.stkSub b z)).elim h1 h2
  have up : ∀ b o, X.s₀.heap.get? b = some o → b ≠ X.env.locals := fun b o q z => absurd (Heap.lt_size q) (by rw [z]; exact Nat.not_lt.mpr I.ok.above)
  have cel : ∀ x c, X.env.cells.lookup x = some c → ∀ v, s.heap.IsCell c v → h'.IsCell c v := fun x c q v ⟨o, ho, hd⟩ => by
    obtain ⟨sl, q2⟩ := N.slot c o ho fun z => (hf c z).2.2.2.2.1 x c q rfl
    exact ⟨_, q2, hd⟩
  have u := I.base
  refine ⟨I.ok, I.os, I.bare, ⟨fun b o q n hb hx => ?_, fun b o q n hb hx => ?_, u.free, fun b o q hx => ?_, u.tups, u.frzs, u.tbls⟩, ?_, fun x c q => ?_, I.free, I.freeC, fun p hp => ?_, fun b ob q => ?_, I.len⟩
  · exact N.keep b o (u.keep b o q n hb hx) (old b o q hx) (far b (up b o q) hb)
  · obtain ⟨sl, q1⟩ := u.slot b o q n hb hx
    obtain ⟨sl', q2⟩ := N.slot b _ q1 (old b o q hx)
    exact ⟨sl', q2⟩
  · obtain ⟨o', q1⟩ := u.there b o q hx
    exact N.there b o' q1
  · obtain ⟨m, ⟨o, es, ep, ho, r⟩, hl⟩ := I.loc
    obtain ⟨sl, q2⟩ := N.slot _ o ho fun z => (hf _ z).2.1 rfl
    refine ⟨m, ⟨_, es, ep, q2, r⟩, fun i x v e1 e2 e3 => ?_⟩
    obtain ⟨w', rw', l⟩ := hl i x v e1 e2 e3
    refine ⟨w', rw', ?_⟩
    rcases l with l | ⟨k, c, q, z⟩
    · exact .inl l
    · exact .inr ⟨k, c, q, cel x c q _ z⟩
  · obtain ⟨v, z⟩ := I.cell x c q
    exact ⟨v, cel x c q v z⟩
  · obtain ⟨q, n, ne, nf, d⟩ := I.pin p hp
    exact ⟨N.keep p.1 p.2 q (fun z => (hf _ z).2.2.2.2.2 p hp rfl) (far _ ne nf), n, ne, nf, d⟩
  · refine (I.hok b ob q).stay (fun c w' hc q2 => ?_) (fun _ z => z) fun _ _ z => z
    have hcH : ∃ o, H c = some o := by
      rcases hc with z | z
      · rw [z]
        exact ⟨_, q⟩
      · exact ⟨_, z⟩
    obtain ⟨oc, hoc⟩ := hcH
    refine N.keep c w' q2 (fun z => ?_) fun z => ?_
    · rw [(hf c z).1] at hoc
      cases hoc
    · rw [I.stkFree c z] at hoc
      cases hoc
end L2
namespace L2
open PySem PySem.W PySem.Spec PySem.Calls PyProof.Rows
structure XClass (K : PySem.W.Frag) (C : Addr) : Prop where
  ga : findIn K (.ref C) "__getattribute__" = some (some (.builtin "BaseException.__getattribute__"))
  gh : findIn K (.ref C) "__getattr__" = some none
  cl : findIn K (.ref C) "__class__" = some (some (.builtin "object.__class__"))
  sp : specialIn K (.builtin "object.__class__") "__get__" = some (some (.builtin "getset_descriptor.__get__"))
  tk : takesIn K (.builtin "object.__class__") = some true
  mo : mroIn K C (.type "object") = some true
  mb : mroIn K C (.type "BaseException") = some true
  cs : (clsIn K C).isSome = true
section
variable {prog : Program} {w : World} {A : Around} {E : Value → Shared → Prop} {s : Shared} {K : PySem.W.Frag} {e C : Addr} {oe : Obj}
theorem ZT {Q : Option Value → Shared → Prop} (XC : XClass K C) (X : K.In s.heap) (I : InstAt s.heap e oe C none) (h : Q (some (.ref C)) { s with toks := s.toks + 1 }) : wpAny (model prog w) A (getAttr? (.ref e) "__class__") Q E s := by
  obtain ⟨hh, g, d, t, os⟩ := s
  have L0 := I.type (M := model prog w)
  have L1 := looks_findIn (M := model prog w) X XC.ga
  have L2 := looks_findIn (M := model prog w) X XC.gh
  have L3 := looks_mroIn (M := model prog w) X XC.mb
  have hf : findObj K C none "__class__" = some (.bind (.builtin "getset_descriptor.__get__") (.builtin "object.__class__")) := by
    obtain ⟨cd, hc⟩ := Option.isSome_iff_exists.mp XC.cs
    unfold findObj
    rw [hc, Option.bind_some, XC.cl, Option.bind_some]
    simp [XC.sp, XC.tk]
  have L4 := looks_find (M := model prog w) X I hf
  have gaB := F.attr_ValueError.ga.bind (.ref e)
  have hx2 : (Value.builtin "BaseException.__getattribute__" == Value.builtin "object.__getattribute__") = false := by decide +kernel
  have hx1 : (onTheHeap (Value.ref C) && Value.builtin "BaseException.__getattribute__" == Value.builtin "object.__getattribute__") = false := by rw [hx2]; rfl
  unfold getAttr? getAttrBy? getAttrBy
  refine wpAny_bind (wpAny_mkText (wpAny_bind (wpAny_attempt (wpAny_holding (wpAny_bind (L0.at (wpAny_bind (L1.at ?_))))))))
  show wpAny _ _ (if (onTheHeap (Value.ref C) && Value.builtin "BaseException.__getattribute__" == Value.builtin "object.__getattribute__") = true then _ else getAttrByItsOwn _ _ _ _ _ _) _ _ _
  rw [hx1, if_neg (by decide)]
  unfold getAttrByItsOwn hookBefore
  rw [if_pos (show onTheHeap (Value.ref C) = true by rfl)]
  refine wpAny_bind (L2.at ?_)
  refine wpAny_bind (wpAny_attempt (wpAny_holding ?_))
  unfold callGetattribute boundAndCalled
  rw [if_neg (by decide)]
  refine wpAny_bind (wpAny_of_eq gaB ?_)
  refine wpAny_call (codeAny_call_builtin F.attr_ValueError.ga.plain F.entry_bexc_ga ?_)
  have hk : builtinKind "BaseException.__getattribute__" = some .slot := by decide +kernel
  have hsp : splitId "BaseException.__getattribute__" = some ("BaseException", "__getattribute__") := by decide +kernel
  have ha := F.args_bexc_ga (.ref e) (.str "__class__" t)
  simp only [checkBuiltinCall, hk, hsp]
  refine wpAny_bind ?_
  unfold isInstance
  repeat lk
  refine wpAny_run (h := none) (class_get (ox := oe) (od := none) X I XC.mo ?_)
  refine wpAny_pure (wpAny_pure ?_)
  exact handed_on rfl (wpAny_pure h)
theorem jk (XC : XClass K C) : KitX K (.ref e) (.ref C) (fun h => InstAt h e oe C none) where
  ty := fun _ _ _ I => I.type
  it := fun _ _ X _ => by
    obtain ⟨cd, hc⟩ := Option.isSome_iff_exists.mp XC.cs
    unfold clsIn at hc
    split at hc
    · rename_i c' d' cd' sl' ho
      intro A' Q' E' s' k q
      unfold isType loadHead
      exact wpAny_bind (wpAny_loadPart (k _ _ (X _ _ ho)) (wpAny_pure q))
    · cases hc
  ne := fun h tp dd its n sl X htp => by
    obtain ⟨cd, hc⟩ := Option.isSome_iff_exists.mp XC.cs
    refine Bool.eq_false_iff.mpr fun q => ?_
    have z : C = tp := Value.ref.inj (beq_iff_eq.mp q)
    subst z
    unfold clsIn at hc
    split at hc
    · rename_i c' d' cd' sl' ho
      have z := (X _ _ ho).symm.trans htp
      cases z
    · cases hc
  ca := fun X I k => ZT XC X I k
end
end L2
namespace L2
open PySem PySem.W PySem.Spec PySem.Calls PyProof.Rows
theorem jY {P : Program} {w : World} {H : Hp} {h : Heap} {a : Addr} {o : HO} (x : zI P w H h a o) : ∃ u, h.get? a = some u := by
  cases o with
  | lst xs =>
    obtain ⟨_, _, _, _, q⟩ := x
    exact ⟨_, q⟩
  | tup xs =>
    obtain ⟨_, _, _, ⟨_, q, _⟩⟩ := x
    exact ⟨_, q⟩
  | dK kvs =>
    obtain ⟨_, _, _, _, o, _, _, q, _⟩ := x
    exact ⟨_, q⟩
  | dT kvs =>
    obtain ⟨_, _, _, _, o, _, _, q, _⟩ := x
    exact ⟨_, q⟩
  | set S n =>
    obtain ⟨o, _, _, _, q, _⟩ := x
    exact ⟨_, q⟩
  | ins C dx fs =>
    obtain ⟨_, _, _, q, _⟩ := x
    exact ⟨_, q⟩
  | own y => exact x
  | xd fs =>
    obtain ⟨_, ⟨o, _, _, q, _⟩, _⟩ := x
    exact ⟨_, q⟩
  | rng lo hi =>
    obtain ⟨_, _, _, q⟩ := x
    exact ⟨_, q⟩
  | frz o u => exact ⟨_, x.1⟩
  | tbl ps => exact ⟨_, x⟩
  | met f y => exact ⟨_, x⟩
  | ext φ => exact x.2.1
theorem Y1 {P : Program} {w : World} {H : Hp} {h : Heap} {a : Addr} (x : HOk P w H h) (n : h.get? a = none) : H a = none := by
  cases q : H a with
  | none => rfl
  | some o =>
    obtain ⟨u, z⟩ := jY (x a o q)
    rw [n] at z
    cases z
structure XMake (K : PySem.W.Frag) (C : Addr) : Prop where
  ex : ∃ B nid iid bmB, ExcBaseFacts B nid iid bmB ∧ excIn K C bmB nid = true
theorem XMake.obj {K : PySem.W.Frag} {C : Addr} {h : Heap} (m : XMake K C) (X : K.In h) : ∃ B nid iid bmB, ExcBaseFacts B nid iid bmB ∧ ∃ bm ns nm qn bs hd sn sub ab col dd k0 k1 k2 k3 k5 mN,
    h.get? C = some (excClassObj nm qn C ns bs bm hd sn sub ab col dd k0 k1 k2 k3 k5 nid) ∧ h.Ns ns mN ∧ mN "__init__" = none ∧ OwnTail h bmB bm := by
  obtain ⟨B, nid, iid, bmB, F, z⟩ := m.ex
  refine ⟨B, nid, iid, bmB, F, ?_⟩
  unfold excIn at z
  split at z
  · rename_i d0 c0 s0 lk0
    split at z
    · rename_i A0 tl j0 j1 j2 j3 nm0 j5 hm0 hs0
      rw [Bool.and_eq_true, Bool.and_eq_true, Bool.and_eq_true, Bool.and_eq_true, Bool.and_eq_true] at z
      obtain ⟨⟨⟨⟨⟨z1, z2⟩, z3⟩, z4⟩, z5⟩, z6⟩ := z
      rw [beq_iff_eq.mp z1] at hm0
      rw [beq_iff_eq.mp z2] at hs0
      obtain ⟨n0, b0, r0, y0, q0, h0, t0, u0, a0, l0, del0⟩ := c0
      have e3 : del0 = false := by simpa using z3
      have e1 : r0 = .ref C :: tl := hm0
      have e2 : s0 = #[j0, j1, j2, j3, some (.builtin nid), j5] := by
        cases s0
        exact congrArg Array.mk hs0
      subst e1 e2 e3
      have g1 := Heap.Ns.of_isNs (isNs_of_in X z5)
      have g2 := nsMap_none_of_in X z5 (beq_iff_eq.mp z6)
      exact ⟨tl, y0, n0, q0, b0, h0, t0, u0, a0, l0, d0, j0, j1, j2, j3, j5, _, X _ _ lk0, g1, g2, tail_of_in X z4⟩
    · cases z
  · cases z
noncomputable def jl (t : TA) (C : Addr) (W : XK) : TS := fun _ σ H => t σ H fun vs H1 => vs.length ≤ sizeLine ∧ W (.ref C) none H1
theorem jm {X : Cx} {W : XK} {C : Addr} {x : Str} {np cpos pos : Pos} {e : Expr} {es : List Expr} {t : TA} (L : vp X W) (m : XMake X.K C) (hc : X.calm = true) (hg : Gl X x) (hm : X.mg x = some (.ref C)) (ha : PA X (e :: es) t)
    (hs : starEach (e :: es) X.env = (false, eval e X.env) :: starEach es X.env := by rfl) (hpl : (backTo cpos (starEach (e :: es) X.env)).any (·.1) = false := by rfl) (hdb : (x == ("__debug__" : Str)) = false := by decide) :
    PS X (.Raise (some (.Call (.Name x np) (e :: es) [] cpos)) none pos) (jl t C W) := by
  intro pins s σ H D I h
  obtain ⟨B, nid, iid, bmB, F, bm, ns, nm, qn, bs, hd, sn, sub, ab, col, dd, k0, k1, k2, k3, k5, mN, lc, ln, hni, TL⟩ := m.obj I.mod.kin
  refine wpAny_Raise_call_subT (nm := nm) (q := qn) (N := ns) (bs := bs) (hdct := hd) (sn := sn) (sub := sub) (ab := ab) (col := col) (dd := dd) (k0 := k0) (k1 := k1) (k2 := k2) (k3 := k3) (k5 := k5) F (TL.hasType F.hasBase) (I.ok.hd hc) hpl hni (xC I hg hm ⟨rfl, ?_⟩ hdb)
  have ar := ha cpos pins s σ H _ I h
  rw [hs] at ar ⊢
  refine evalArgs_plain (thn ar fun us s1 ⟨vs, H1, I1, r, z, q⟩ => ?_)
  refine ⟨rfl, by rw [← r.length]; exact z, I1.bk _ _ lc, ln.keeps I1.bk, TL.keeps I1.bk, fun h' e' M => ?_⟩
  obtain ⟨t0, ht, _, _⟩ := M.there
  have I2 : Inv X pins σ H1 { s1 with heap := h' } := I1.kept (t' := s1.toks) M.keeps
  refine L _ _ ⟨pins, σ, H1, e', C, [e'], rfl, I2, ⟨_, _, ht, ⟨rfl, rfl⟩, rfl, Nat.lt_of_sub_pos (Nat.zero_lt_succ 4), .inl ⟨rfl, rfl⟩⟩, fun b hb => ?_, q⟩
  cases List.mem_singleton.mp hb
  exact I1.fpX M.new (Y1 I1.hok M.new)
theorem Fun.okX {P : Program} {w : World} {K : PySem.W.Frag} {mg : Str → Option Value} {base : Heap} {x qual : Str} {st : Stmt} {f : Addr} {fd : FuncData} {N ps : List Str} {k : Nat} {sp : Sp} (F : Fun K x qual st f fd) (S : FnScope N ps (defScope st))
    (len : ∀ vs H Q E, sp vs H Q E → vs.length = ps.length)
    (hbody : ∀ (cdv : Value) (A : Around) (outer : List Env) (s : Shared) (H : Hp) (vs : List V) (Q : VK) (E : XK), Room k (A.deeper (envOfC qual (defScope st) s.heap.objs.size f cdv)) → sp vs H Q E →
      ∃ t, PSs (cxOf (CX1 P w) P w K mg base N qual (defScope st) f cdv A outer s H E) (defBody st) t ∧ t { nx := fun _ H' => Q .non H', rt := Q } (start N vs) H) : FnOk P w K mg base (CX1 P w) (k + 1) f fd ps sp := by
  obtain ⟨oc, od, kV, doc, pm, an, cdv, ct, osl, rfl, lk, hcd⟩ := F.ex
  exact qL lk hcd S len fun A outer s H vs Q E hr hsp => hbody cdv A outer s H vs Q E hr hsp
end L2
namespace L2
open PySem PySem.W PySem.Spec PySem.Calls PyProof.Rows
noncomputable abbrev Cx.tried (X : Cx) (pins : List (Addr × Obj)) (Z : Value → Shared → Prop) : Cx := { X with pn := X.pn ++ pins, xe := Z }
noncomputable abbrev Cx.suite (X : Cx) (pins : List (Addr × Obj)) (e : Addr) : Cx := { X with A := X.A.mark (some (.ref e)), calm := false, pn := X.pn ++ pins, xe := fun _ _ => False }
section
variable {X : Cx} {pins ps : List (Addr × Obj)} {σ : St} {H : Hp} {s : Shared} {Z : Value → Shared → Prop} {e : Addr}
theorem Inv.tried (I : Inv X pins σ H s) (Z : Value → Shared → Prop) : Inv (X.tried pins Z) [] σ H s :=
  ⟨⟨I.ok.mod, I.ok.kind, I.ok.glob, I.ok.blt, I.ok.above, I.ok.inj, I.ok.has, I.ok.cab, I.ok.hd, I.ok.frames, I.ok.stk, I.ok.exf, I.ok.bs, I.ok.bsz, I.ok.noex, I.ok.exfs, I.ok.funs, I.ok.frf⟩,
    I.os, I.bare, I.base, I.loc, I.cell, I.free, I.freeC, fun p hp => I.pin p (by simpa using hp), I.hok, I.len⟩
theorem Inv.untried (I : Inv (X.tried pins Z) ps σ H s) : Inv X pins σ H s :=
  ⟨⟨I.ok.mod, I.ok.kind, I.ok.glob, I.ok.blt, I.ok.above, I.ok.inj, I.ok.has, I.ok.cab, I.ok.hd, I.ok.frames, I.ok.stk, I.ok.exf, I.ok.bs, I.ok.bsz, I.ok.noex, I.ok.exfs, I.ok.funs, I.ok.frf⟩,
    I.os, I.bare, I.base, I.loc, I.cell, I.free, I.freeC, fun p hp => I.pin p (List.mem_append_left _ hp), I.hok, I.len⟩
theorem Inv.suite (I : Inv X pins σ H s) (e : Addr) (hz : (X.A.mark (some (.ref e))).frames = X.A.frames) : Inv (X.suite pins e) [] σ H s :=
  ⟨⟨I.ok.mod, I.ok.kind, I.ok.glob, I.ok.blt, I.ok.above, I.ok.inj, I.ok.has, I.ok.cab, fun z => (Bool.noConfusion z), hz.trans I.ok.frames, I.ok.stk, I.ok.exf, I.ok.bs, I.ok.bsz, I.ok.noex, I.ok.exfs, I.ok.funs, I.ok.frf⟩,
    I.os, I.bare, I.base, I.loc, I.cell, I.free, I.freeC, fun p hp => I.pin p (by simpa using hp), I.hok, I.len⟩
theorem Inv.unsuite (I : Inv (X.suite pins e) ps σ H s) (c : X.calm = true → X.A.handled = none) (hz : (X.A.mark (some (.ref e))).frames = X.A.frames) : Inv X pins σ H s :=
  ⟨⟨I.ok.mod, I.ok.kind, I.ok.glob, I.ok.blt, I.ok.above, I.ok.inj, I.ok.has, I.ok.cab, c, hz.symm.trans I.ok.frames, I.ok.stk, I.ok.exf, I.ok.bs, I.ok.bsz, I.ok.noex, I.ok.exfs, I.ok.funs, I.ok.frf⟩,
    I.os, I.bare, I.base, I.loc, I.cell, I.free, I.freeC, fun p hp => I.pin p (List.mem_append_left _ hp), I.hok, I.len⟩
theorem Inv.forget (I : Inv X pins σ H s) : Inv X pins (List.replicate X.N.length none) H s :=
  I.weak (by rw [List.length_replicate]; exact I.len.symm) fun i v q => by
    rw [List.getElem?_replicate] at q
    split at q <;> cases q
theorem ZU {M : Model} {A : Around} {E : Value → Shared → Prop} {n : Str} {pos : Pos} {Q : Unit → Shared → Prop} (I : Inv X pins σ H s) (hl : X.env.kindOf n = some .local) (h : ∀ s', Inv X pins (List.replicate X.N.length none) H s' → Q () s') :
    wpAny M A (do bindName X.env n .none; unbindBehindTheSuite X.env n pos) Q E s := by
  obtain ⟨m, hn, _⟩ := id I.loc
  obtain ⟨oL, _, _, hoL, _⟩ := id hn
  refine wpAny_nameGoes hl hn (by rw [I.ok.kind]; rfl) fun h' m' hn' hs => h _ ?_
  have kp : ∀ b o, b ≠ X.env.locals → s.heap.get? b = some o → h'.get? b = some o := fun b o nb q => (hs.2 b nb).trans q
  have far : ∀ b o, X.s₀.heap.get? b = some o → b ≠ X.env.locals := fun b o q z => absurd (Heap.lt_size q) (by rw [z]; exact Nat.not_lt.mpr I.ok.above)
  have u := I.base
  refine ⟨I.ok, I.os, I.bare, ⟨fun b o q nn hb hx => kp b o (far b o q) (u.keep b o q nn hb hx), fun b o q nn hb hx => ?_, u.free, fun b o q hx => ?_, u.tups, u.frzs, u.tbls⟩, ⟨m', hn', fun i x v _ q _ => ?_⟩, fun x c q => ?_, I.free, I.freeC, fun p hp => ?_, fun b ob q => ?_, List.length_replicate⟩
  · obtain ⟨sl, q1⟩ := u.slot b o q nn hb hx
    exact ⟨sl, kp b _ (far b o q) q1⟩
  · obtain ⟨o', q1⟩ := u.there b o q hx
    exact ⟨o', kp b o' (far b o q) q1⟩
  · rw [List.getElem?_replicate] at q
    split at q <;> cases q
  · obtain ⟨v, o, ho, hd⟩ := I.cell x c q
    exact ⟨v, o, kp c o (I.cne x c q) ho, hd⟩
  · obtain ⟨q, nn, ne, nf, d⟩ := I.pin p hp
    exact ⟨kp p.1 p.2 ne q, nn, ne, nf, d⟩
  · refine (I.hok b ob q).stay (fun c w' hc q2 => kp c w' (fun z => ?_) q2) (fun _ z => z) fun _ _ z => z
    have hcH : ∃ o, H c = some o := by
      rcases hc with z | z
      · rw [z]
        exact ⟨_, q⟩
      · exact ⟨_, z⟩
    obtain ⟨oc, hoc⟩ := hcH
    rw [z, I.free] at hoc
    cases hoc
theorem ZV {M : Model} {A : Around} {E : Value → Shared → Prop} {e C T : Addr} {fs : List Addr} {Q : Unit → Shared → Prop} (F : Fly s.heap e C [e, T]) (h : ∀ h', Noted fs [e, T] s.heap h' → Fly h' e C [e, T] → Q () { s with heap := h' }) :
    wpAny M A (setFlight (.ref e) none) Q E s := by
  obtain ⟨oe, vs, he, hc, hd, hz, ⟨_, z⟩ | ⟨T', oT, ts, h1, nT, hT, hdT, h3, z⟩⟩ := F
  · cases z
  · cases z
    unfold setFlight
    refine wpAny_bind (wpAny_field he hd h1 ?_)
    rw [if_pos (show (Value.ref T != Value.none) = true from by simp)]
    have l3 := (Array.getElem?_eq_some_iff.mp h3).1
    refine wpAny_setField hT hdT l3 ?_
    have d4 := Obj.data_mapFields hdT (·.setIfInBounds 3 ((none : Option Addr).elim Value.none fun f => rawInt f))
    have g4 := Heap.get?_update_self (Obj.mapFields (·.setIfInBounds 3 ((none : Option Addr).elim Value.none fun f => rawInt f))) hT (Obj.isFreed_of_fields d4)
    have oth : ∀ b, b ≠ T → (s.heap.update T (Obj.mapFields (·.setIfInBounds 3 ((none : Option Addr).elim Value.none fun f => rawInt f)))).get? b = s.heap.get? b := fun b hb => Heap.get?_update_other _ _ (Ne.symm hb)
    refine h _ ⟨fun b o q nb _ => (oth b fun z => nb (by simp [z])).trans q, fun b o q nb => ⟨o.slots, (oth b fun z => nb (by simp [z])).trans q⟩, fun b o q => ?_⟩ ⟨oe, vs, (oth e (Ne.symm nT)).trans he, hc, hd, hz, .inr ⟨T, _, _, h1, nT, g4, d4, ?_, rfl⟩⟩
    · by_cases z : b = T
      · rw [z]
        exact ⟨_, g4⟩
      · exact ⟨o, (oth b z).trans q⟩
    · rw [Array.getElem?_setIfInBounds_self_of_lt l3]
      rfl
noncomputable def Y2 (tb : TS) (G : VK → Prop) : TS := fun D σ H => tb D σ H ∧ G D.rt
theorem U4 {body : List Stmt} {x n : Str} {np hpos pos : Pos} {b0 : Stmt} {suite : List Stmt} {tb : TS} {W : XK} {G : VK → Prop} {i N : Nat} {D : Addr} (hN : X.N.length = N) (hnd : X.N.Nodup) (hi : X.N[i]? = some n) (hl : X.env.kindOf n = some .local)
    (hg : Gl X x) (hm : X.mg x = some (.ref D)) (hx : ∀ C H, W (.ref C) none H → exmOne X.K (.ref C) (.ref D) = some true)
    (hb : ∀ pins Z, vp (X.tried pins Z) W → PSs (X.tried pins Z) body tb)
    (hs : ∀ pins e C oe H' rt, W (.ref C) none H' → H' e = none → (e, oe) ∈ pins → (oe.cls = .ref C ∧ oe.dict = none) → (∃ vs, oe.data = .fields vs) → G rt → ∃ ts, PSs (X.suite pins e) (b0 :: suite) ts ∧ ts { nx := fun _ _ => False, rt := rt } ((List.replicate N none).set i (some (.ref e))) H')
    (hst : X.stack = X.env :: X.outer := by rfl) (hfr : X.env.frame = some X.env.locals := by rfl) (hdb : (x == ("__debug__" : Str)) = false := by decide) :
    PS X (.Try body [.ExceptHandler (some (.Name x np)) (some n) (b0 :: suite) hpos] [] [] pos) (Y2 tb G) := by
  intro pins s σ H B I ⟨h1, h2⟩
  refine wpAny_Try_except ?_
  have mono : ∀ Z, vp (X.tried pins Z) W → wpAny (model X.prog X.w) X.A (execs body X.env) (fun f s₁ => match f with | .next => wpAny (model X.prog X.w) X.A (execs [] X.env) (SP X pins B) X.xe s₁ | f => SP X pins B f s₁) Z s := fun Z L => by
    refine wpAny_mono (hb pins Z L [] s σ H B (I.tried Z) h1) (fun f s1 q => ?_) fun _ _ z => z
    cases f with
    | next =>
      obtain ⟨σ', H', J, q⟩ := q
      exact wpAny_execs_nil ⟨σ', H', J.untried, q⟩
    | brk =>
      obtain ⟨σ', H', J, q⟩ := q
      exact ⟨σ', H', J.untried, q⟩
    | cont =>
      obtain ⟨σ', H', J, q⟩ := q
      exact ⟨σ', H', J.untried, q⟩
    | ret u =>
      obtain ⟨v, σ', H', J, r, q⟩ := q
      exact ⟨v, σ', H', J.untried, r, q⟩
  refine mono _ ?_
  rintro ev s' ⟨pins', σ', H', e, C, fp, rfl, I', F, hf, hw⟩
  have fr : X.A.frames = some (X.env :: X.outer) := I.ok.frames.trans (by rw [hst])
  have st : s'.heap.FunFrames X.base (X.env :: X.outer) := by
    have z := I'.stack
    rw [show (X.tried pins _).stack = X.env :: X.outer from hst] at z
    exact z
  refine kl (base := X.base) (outer := X.outer) fr st hfr F fun h' T z1 z2 NN F' => ?_
  rw [← hst] at NN
  have fT : FpX X pins H' T := (I'.untried).fpX (Heap.get?_none_of_le z1) (I'.hok.fresh z1)
  have fe : FpX X pins H' e := by
    obtain ⟨k0, k1, k2, k3, k4, k5⟩ := hf e F.self
    exact ⟨k0, k1, k2, k3, k4, fun p hp => k5 p (List.mem_append_left _ hp)⟩
  have I2 : Inv X pins (List.replicate X.N.length none) H' { s' with heap := h' } := (I'.noted NN hf).untried.forget
  have I3 := I2.suite e rfl
  have hfp : ∀ b ∈ [e, T], FpX X pins H' b := fun b hb => by
    rcases List.mem_cons.mp hb with z | z
    · rw [z]
      exact fe
    · rw [List.mem_singleton.mp z]
      exact fT
  refine wpAny_handleBy_cons (codeAny_handlers_test (xC I3 hg hm ?_ hdb)) (by intro q; cases q)
  have LT : Looks (model X.prog X.w) h' (typeOf (.ref e)) (.ref C) := by
    obtain ⟨oe, _, he, hc, _⟩ := F'
    exact hc.1 ▸ (Looks.ld he).andThen .now
  refine (exm_one I3.kIn LT (hx C H' hw)).here ?_
  refine codeAny_handlers_suite_as (ZV (fs := frs X.stack) F' fun h5 N5 F5 => ?_)
  have I5 : Inv X pins (List.replicate X.N.length none) H' { s' with heap := h5 } := I2.noted N5 hfp
  obtain ⟨oe, vs, he, hc, hd, _⟩ := F5
  have I6 : Inv X (pins ++ [(e, oe)]) (List.replicate X.N.length none) H' { s' with heap := h5 } := I5.pins_of fun p hp => by
    rcases List.mem_append.mp hp with z | z
    · exact I5.pin p (List.mem_append_right _ z)
    · rw [List.mem_singleton.mp z]
      exact ⟨he, fe.1, fe.2.1, fe.2.2.1, fun v q => by rw [hd] at q; cases q⟩
  have I7 := I6.suite e rfl
  refine vA (X := X.suite (pins ++ [(e, oe)]) e) I7 hnd hi (.inl hl) (v := .ref e) rfl (fun s6 I8 => ?_) (.inr hl)
  obtain ⟨ts, ht, g⟩ := hs (pins ++ [(e, oe)]) e C oe H' _ hw fe.1 (by simp) hc ⟨vs, hd⟩ h2
  rw [← hN] at g
  refine wpAny_mono (ht [] s6 _ H' _ I8 g) (fun f s7 q => ?_) fun _ _ z => z.elim
  cases f with
  | next =>
    obtain ⟨_, _, _, q⟩ := q
    exact q.elim
  | brk =>
    obtain ⟨_, _, _, q⟩ := q
    exact q.elim
  | cont =>
    obtain ⟨_, _, _, q⟩ := q
    exact q.elim
  | ret u =>
    obtain ⟨v, σ7, H7, J, r, q⟩ := q
    have J2 := J.unsuite I.ok.hd rfl
    refine ZU J2 hl fun s8 J3 => ⟨v, _, H7, J3.pins_of fun p hp => J3.pin p ?_, r, q⟩
    exact List.mem_append_right _ (List.mem_append_left _ hp)
theorem yi {C : Addr} {oe : Obj} (XC : XClass X.K C) (hp : (e, oe) ∈ X.pn) (hc : oe.cls = .ref C ∧ oe.dict = none) (hd : ∃ vs, oe.data = .fields vs) :
    zN X (.builtin "isinstance") (fun xs H Q => (∃ D b, xs = [.ref e, .ref D] ∧ kitOne X.K (.ref C) (.ref D) = some b ∧ Q (.bl b) H) ∨ ∃ n b, xs = [.ref e, .ty n] ∧ kitOne X.K (.ref C) (.type n) = some b ∧ Q (.bl b) H) := by
  intro pins s σ H xs us Q I r h
  have at0 : InstAt s.heap e oe C none := by
    obtain ⟨vs, hd⟩ := hd
    refine ⟨(I.pin _ (List.mem_append_left _ hp)).1, hc.1, ?_, ?_⟩
    · unfold notCls
      rw [hd]
    · rw [hc.2]
      trivial
  rcases h with ⟨D, b, rfl, k, q⟩ | ⟨n, b, rfl, k, q⟩
  · obtain ⟨u, c, rfl, ru, rc⟩ := r.two
    cases ru
    cases rc
    exact kia_one (jk (oe := oe) XC) I.kIn at0 k (fun z => nomatch z) fun tk => ⟨.bl b, H, I.tok tk, rfl, q⟩
  · obtain ⟨u, c, rfl, ru, rc⟩ := r.two
    cases ru
    cases rc
    exact kia_one (jk (oe := oe) XC) I.kIn at0 k (fun z => nomatch z) fun tk => ⟨.bl b, H, I.tok tk, rfl, q⟩
end
structure CalX (P : Program) (w : World) (K : PySem.W.Frag) (mg : Str → Option Value) (base : Heap) (k : Nat) (x : Str) (dvs : List V) (sp : Sp) : Prop where
  ex : ∃ (f : Addr) (fd : FuncData) (ps : List Str) (ds : List Value), FnOk P w K mg base (CX1 P w) k f fd ps sp ∧ mg x = some (.ref f) ∧ keepIn K (.ref f) = true ∧ Binds K fd ps ds ∧ Vals dvs ds
theorem XX {X : Cx} : xH (CX1 X.prog X.w) X E0 := by
  rintro pins σ H s ev s' I ⟨e, C, fp, H', rfl, F, hf, os, bare, un, hok, hw⟩
  exact hw.elim
theorem uJ {X : Cx} {k : Nat} {sp : Sp} {dvs : List V} {W : XK} {x : Str} {p pos : Pos} {e : Expr} {es : List Expr} {t : TA} (c : CalX X.prog X.w X.K X.mg X.base k x dvs sp) (ps : xH (CX1 X.prog X.w) X W) (hr : Room k X.A) (hg : Gl X x) (ha : PA X (e :: es) t)
    (hdb : (x == ("__debug__" : Str)) = false := by decide) (hse : starEach (e :: es) X.env = (false, eval e X.env) :: starEach es X.env := by rfl) (hpl : (backTo pos (starEach es X.env)).any (·.1) = false := by rfl) :
    PE X (.Call (.Name x p) (e :: es) [] pos) (yp sp dvs W t) := by
  obtain ⟨f, fd, qs, ds, F, hm, hk, hb, hd⟩ := c.ex
  exact kd F hr hg hm hk hb hd ps ha hdb hse hpl
end L2
namespace L2
open PySem PySem.Spec PyProof.Rows
noncomputable def Q7 (X : Cx) (N : List Str) (scope : Scope) (cl : List (Str × Addr)) (y : Str) (C : Addr) (s : Shared) (H : Hp) (fp : List Addr) : Cx :=
  { zO X N scope cl C s H fp with env := compEnvC scope ((y, C + 1) :: cl) C X.env, fn := fun x => x == y }
structure LcOkC (X : Cx) (N : List Str) (n : Nat) (js : List Nat) (scope : Scope) (cl : List (Str × Addr)) (y : Str) : Prop where
  clos : closureFor scope X.env = pure cl
  one : ∀ k, cellsFrom k scope.names cl = (y, k) :: cl
  onep : ∀ h : Heap, pushCells h scope.names = h.push { cls := .type "cell", data := .cell none }
  kind : scope.kind = .function
  names : ∀ y ∈ scope.names, y.2 = .local → scope.names.lookup y.1 = some .local
  cells : ∀ x c, cl.lookup x = some c → X.env.cells.lookup x = some c
  has : ∀ x, ((relabel scope X.env).names.lookup x = some .cell ∨ (relabel scope X.env).names.lookup x = some .free) → x = y ∨ ∃ c, cl.lookup x = some c
  len : n + js.length = N.length
  free : ∀ (i : Nat) (x : Str), N[n + i]? = some x → ∃ j c, js[i]? = some j ∧ X.N[j]? = some x ∧ (X.env.scope.names.lookup x = some .cell ∨ X.env.scope.names.lookup x = some .free) ∧
    ((relabel scope X.env).names.lookup x = some .cell ∨ (relabel scope X.env).names.lookup x = some .free) ∧ cl.lookup x = some c ∧ x ≠ y
theorem vC {cl : List (Str × Addr)} {y x : Str} {k c : Addr} (h : List.lookup x ((y, k) :: cl) = some c) : (x = y ∧ c = k) ∨ cl.lookup x = some c := by
  rw [List.lookup_cons] at h
  cases q : x == y with
  | true =>
    rw [q] at h
    exact .inl ⟨beq_iff_eq.mp q, (Option.some.inj h).symm⟩
  | false =>
    rw [q] at h
    exact .inr h
theorem Y3 {cl : List (Str × Addr)} {y x : Str} {k : Addr} (h : x ≠ y) : List.lookup x ((y, k) :: cl) = cl.lookup x := by
  rw [List.lookup_cons, beq_eq_false_iff_ne.mpr h]
theorem vD {cl : List (Str × Addr)} {y : Str} {k : Addr} : List.lookup y ((y, k) :: cl) = some k := by
  rw [List.lookup_cons, beq_self_eq_true]
section
variable {X : Cx} {pins : List (Addr × Obj)} {σ : St} {H : Hp} {s : Shared} {N : List Str} {n : Nat} {js : List Nat} {scope : Scope} {cl : List (Str × Addr)} {y : Str}
theorem LcOkC.far (L : LcOkC X N n js scope cl y) {fp : List Addr} {C b c : Addr} {x : Str} {z : Nat} (hf : ∀ b ∈ fp, FpOk X pins H b) (hlt : b < z) (hb : b ∈ fp) (hC : z ≤ C) (e : List.lookup x ((y, C + 1) :: cl) = some c) : c ≠ b := by
  rcases vC e with ⟨_, q⟩ | q
  · rw [q]
    exact Nat.ne_of_gt (Nat.lt_of_lt_of_le hlt (Nat.le_succ_of_le hC))
  · exact (hf b hb).2.2.2.2.1 x c (L.cells x c q)
theorem LcOkC.low (L : LcOkC X N n js scope cl y) (I : Inv X pins σ H s) {x : Str} {c : Addr} (e : cl.lookup x = some c) : c < s.heap.objs.size := by
  obtain ⟨v, o, ho, _⟩ := I.cell x c (L.cells x c e)
  exact Heap.lt_size ho
theorem LcOkC.ok (L : LcOkC X N n js scope cl y) (I : Inv X pins σ H s) {fp : List Addr} (hf : ∀ b ∈ fp, FpOk X pins H b) (hlt : ∀ b ∈ fp, b < s.heap.objs.size) {C : Addr} (hC : s.heap.objs.size ≤ C) : (Q7 X N scope cl y C s H fp).Ok where
  mod := I.ok.mod
  kind := L.kind
  glob := I.ok.glob
  blt := I.ok.blt
  above := hC
  inj := fun x x' c h1 h2 => by
    rcases vC h1 with ⟨e1, q1⟩ | q1 <;> rcases vC h2 with ⟨e2, q2⟩ | q2
    · rw [e1, e2]
    · exact absurd (Nat.lt_of_lt_of_le (L.low I q2) hC) (by rw [q1]; exact Nat.not_lt.mpr (Nat.le_succ C))
    · exact absurd (Nat.lt_of_lt_of_le (L.low I q1) hC) (by rw [q2]; exact Nat.not_lt.mpr (Nat.le_succ C))
    · exact I.ok.inj x x' c (L.cells x c q1) (L.cells x' c q2)
  has := fun x hx => by
    rcases L.has x hx with e | ⟨c, e⟩
    · rw [e]
      exact ⟨_, vD⟩
    · by_cases q : x = y
      · rw [q]
        exact ⟨_, vD⟩
      · exact ⟨c, (Y3 q).trans e⟩
  cab := fun x c hx e => by
    have hx : x = y := beq_iff_eq.mp hx
    rw [hx] at e
    cases (vD.symm.trans e)
    exact Nat.le_succ_of_le hC
  hd := I.ok.hd
  frames := I.ok.frames
  stk := .inl rfl
  exf := fun b hb => ⟨Nat.ne_of_lt (Nat.lt_of_lt_of_le (hlt b hb) hC), fun x c e => L.far hf (hlt b hb) hb hC e⟩
  bs := I.bs
  bsz := Nat.le_trans I.ok.bsz I.sz
  noex := fun b o e hb => by
    rcases (hf b hb).2.2.2.1 with z | z
    · exact I.ok.noex b o e z
    · exact absurd (Nat.lt_of_lt_of_le (Heap.lt_size (I.ok.bs b o e).1) z) (Nat.lt_irrefl _)
  exfs := fun b hb hz => by
    rcases List.mem_cons.mp (I.stkSub b hz) with z | z
    · exact (hf b hb).2.1 z
    · exact (hf b hb).2.2.1 z
  funs := I.stack
  frf := I.stkFree
end
end L2
namespace L2
open PySem PySem.Spec PyProof.Rows
section
variable {κ : Type} [DecidableEq κ]
noncomputable def yS (kvs : List (κ × V)) (k : κ) : Option V := (kvs.find? fun kv => decide (kv.1 = k)).map (·.2)
noncomputable def vc (kvs : List (κ × V)) (k : κ) (v : V) : List (κ × V) :=
  if (kvs.any fun kv => decide (kv.1 = k)) = true then kvs.map (fun kv => if kv.1 = k then (kv.1, v) else kv) else kvs ++ [(k, v)]
noncomputable def XY (kvs : List (κ × V)) (k : κ) : List (κ × V) := kvs.filter fun kv => decide (kv.1 ≠ k)
theorem vE {p : κ × V} {r : List (κ × V)} {k : κ} (e : p.1 = k) : yS (p :: r) k = some p.2 := by simp [yS, List.find?_cons, e]
theorem vF {p : κ × V} {r : List (κ × V)} {k : κ} (e : ¬ p.1 = k) : yS (p :: r) k = yS r k := by simp [yS, List.find?_cons, e]
theorem jp (k : κ) : ∀ kvs : List (κ × V), (kvs.any fun kv => decide (kv.1 = k)) = (yS kvs k).isSome
  | [] => rfl
  | p :: r => by
    rw [List.any_cons]
    by_cases e : p.1 = k
    · simp only [vE e, decide_eq_true e, Bool.true_or, Option.isSome_some]
    · rw [vF e, decide_eq_false e, Bool.false_or]; exact jp k r
theorem xO.isSome_eq {o : Option V} {u : Option Value} (r : xO o u) : o.isSome = u.isSome := by
  cases o with
  | none => cases u with
    | none => rfl
    | some _ => exact (show False from r).elim
  | some _ => cases u with
    | none => exact (show False from r).elim
    | some _ => rfl
theorem xO.getD {o : Option V} {u : Option Value} {d : V} {d' : Value} (r : xO o u) (rd : RelV d d') : RelV (o.getD d) (u.getD d') := by
  cases o with
  | none => cases u with
    | none => exact rd
    | some _ => exact (show False from r).elim
  | some _ => cases u with
    | none => exact (show False from r).elim
    | some _ => exact r
theorem KV.val {kvs : List (κ × V)} {vs : List (κ × Value)} (r : KV kvs vs) (k : κ) : xO (yS kvs k) (valueAt vs k) := by
  unfold KV at r
  induction r with
  | nil => exact True.intro
  | @cons p q ps qs h t ih =>
    obtain ⟨h1, h2⟩ := h
    by_cases e : p.1 = k
    · have e' : q.1 = k := h1.symm.trans e
      have b : valueAt (q :: qs) k = some q.2 := by simp [valueAt, List.find?_cons, e']
      rw [vE e, b]; exact h2
    · have e' : ¬ q.1 = k := fun z => e (h1.trans z)
      have b : valueAt (q :: qs) k = valueAt qs k := by simp [valueAt, List.find?_cons, e']
      rw [vF e, b]; exact ih
theorem KV.any {kvs : List (κ × V)} {vs : List (κ × Value)} (r : KV kvs vs) (k : κ) : (kvs.any fun kv => decide (kv.1 = k)) = vs.any fun kv => decide (kv.1 = k) := by
  unfold KV at r
  induction r with
  | nil => rfl
  | cons h t ih => rw [List.any_cons, List.any_cons, ih, h.1]
theorem KV.repl {kvs : List (κ × V)} {vs : List (κ × Value)} (r : KV kvs vs) (k : κ) {y : V} {u : Value} (ry : RelV y u) :
    KV (kvs.map fun kv => if kv.1 = k then (kv.1, y) else kv) (vs.map fun kv => if kv.1 = k then (kv.1, u) else kv) := by
  unfold KV at r ⊢
  induction r with
  | nil => exact .nil
  | @cons p q ps qs h t ih =>
    rw [List.map_cons, List.map_cons]
    refine .cons ?_ ih
    obtain ⟨h1, h2⟩ := h
    by_cases e : p.1 = k
    · rw [if_pos e, if_pos (h1.symm.trans e)]; exact ⟨h1, ry⟩
    · rw [if_neg e, if_neg (fun z => e (h1.trans z))]; exact ⟨h1, h2⟩
theorem KV.put {kvs : List (κ × V)} {vs : List (κ × Value)} (r : KV kvs vs) (k : κ) {y : V} {u : Value} (ry : RelV y u) : KV (vc kvs k y) (stored vs k u) := by
  unfold vc stored
  rw [r.any k]
  by_cases e : (vs.any fun kv => decide (kv.1 = k)) = true
  · rw [if_pos e, if_pos e]; exact r.repl k ry
  · rw [if_neg e, if_neg e]; exact Paired.snoc r ⟨rfl, ry⟩
theorem KV.drop {kvs : List (κ × V)} {vs : List (κ × Value)} (r : KV kvs vs) (k : κ) : KV (XY kvs k) (without vs k) := by
  unfold KV at r ⊢
  unfold XY without
  induction r with
  | nil => exact .nil
  | @cons p q ps qs h t ih =>
    obtain ⟨h1, h2⟩ := h
    rw [List.filter_cons, List.filter_cons]
    by_cases e : p.1 = k
    · have a : ¬ decide (p.1 ≠ k) = true := by simp [e]
      have b : ¬ decide (q.1 ≠ k) = true := by simp [h1.symm.trans e]
      rw [if_neg a, if_neg b]; exact ih
    · have e' : ¬ q.1 = k := fun z => e (h1.trans z)
      have a : decide (p.1 ≠ k) = true := by simp [e]
      have b : decide (q.1 ≠ k) = true := by simp [e']
      rw [if_pos a, if_pos b]; exact .cons ⟨h1, h2⟩ ih
theorem KV.keys {kvs : List (κ × V)} {vs : List (κ × Value)} (r : KV kvs vs) : kvs.map (·.1) = vs.map (·.1) := by
  unfold KV at r
  induction r with
  | nil => rfl
  | cons h t ih => rw [List.map_cons, List.map_cons, ih, h.1]
theorem KV.length {kvs : List (κ × V)} {vs : List (κ × Value)} (r : KV kvs vs) : kvs.length = vs.length := Paired.length r
end
noncomputable abbrev KT (H : Hp) : List (List Key × V) → List (List Key × Addr × Value) → Prop := Paired fun p q => p.1 = q.1 ∧ H q.2.1 = some (.tup (p.1.map kV)) ∧ RelV p.2 q.2.2
theorem KT.val {H : Hp} {kvs : List (List Key × V)} {xs : List (List Key × Addr × Value)} (r : KT H kvs xs) (k : List Key) : xO (yS kvs k) ((atKey xs k).map (·.2)) := by
  induction r with
  | nil => exact True.intro
  | @cons p q ps qs h t ih =>
    obtain ⟨h1, _, h2⟩ := h
    by_cases e : p.1 = k
    · have e' : q.1 = k := h1.symm.trans e
      have b : atKey (q :: qs) k = some q.2 := by simp [atKey, List.find?_cons, e']
      rw [vE e, b]; exact h2
    · have e' : ¬ q.1 = k := fun z => e (h1.trans z)
      have b : atKey (q :: qs) k = atKey qs k := by simp [atKey, List.find?_cons, e']
      rw [vF e, b]; exact ih
theorem KT.repl {H : Hp} {kvs : List (List Key × V)} {xs : List (List Key × Addr × Value)} (r : KT H kvs xs) (k : List Key) {y : V} {u : Value} (ry : RelV y u) :
    KT H (kvs.map fun kv => if kv.1 = k then (kv.1, y) else kv) (xs.map (putAt k u)) := by
  induction r with
  | nil => exact .nil
  | @cons p q ps qs h t ih =>
    rw [List.map_cons, List.map_cons]
    refine .cons ?_ ih
    obtain ⟨h1, h2, h3⟩ := h
    unfold putAt
    by_cases e : p.1 = k
    · rw [if_pos e, if_pos (h1.symm.trans e)]; exact ⟨h1, h2, ry⟩
    · rw [if_neg e, if_neg (fun z => e (h1.trans z))]; exact ⟨h1, h2, h3⟩
theorem KT.put {H : Hp} {kvs : List (List Key × V)} {xs : List (List Key × Addr × Value)} (r : KT H kvs xs) (k : List Key) {b : Addr} {y : V} {u : Value} (hb : H b = some (.tup (k.map kV))) (ry : RelV y u) :
    KT H (vc kvs k y) (storedH xs k b u) := by
  have e : (kvs.any fun kv => decide (kv.1 = k)) = (atKey xs k).isSome := by
    rw [jp, (r.val k).isSome_eq, Option.isSome_map]
  unfold vc storedH
  rw [e]
  by_cases q : (atKey xs k).isSome = true
  · rw [if_pos q, if_pos q]; exact r.repl k ry
  · rw [if_neg q, if_neg q]; exact Paired.snoc r ⟨rfl, hb, ry⟩
theorem KT.keeps {H H' : Hp} {kvs : List (List Key × V)} {xs : List (List Key × Addr × Value)} (r : KT H kvs xs) (ht : ∀ b ys, H b = some (.tup ys) → H' b = some (.tup ys)) : KT H' kvs xs :=
  Paired.mapP r fun _ _ z => ⟨z.1, ht _ _ z.2.1, z.2.2⟩
section
variable {P : Program} {w : World} {H : Hp} {h : Heap} {a : Addr}
end
noncomputable def k9 (H : Hp) (a : Addr) (y : V) (r : Option V) : Prop :=
  (∃ kvs k, Rd H a (.dK kvs) ∧ y = kV k ∧ r = yS kvs k) ∨ ∃ kvs k b, Rd H a (.dT kvs) ∧ y = .ref b ∧ H b = some (.tup (k.map kV)) ∧ r = yS kvs k
noncomputable def Za (H : Hp) (a : Addr) (y v : V) (H' : Hp) : Prop :=
  (∃ kvs k, H a = some (.dK kvs) ∧ y = kV k ∧ kvs.length < sizeLine ∧ H' = upd H a (.dK (vc kvs k v))) ∨
  ∃ kvs k b, H a = some (.dT kvs) ∧ y = .ref b ∧ H b = some (.tup (k.map kV)) ∧ kvs.length < sizeLine ∧ H' = upd H a (.dT (vc kvs k v))
theorem k9.k {H : Hp} {a : Addr} {kvs : List (Key × V)} {k : Key} (e : H a = some (.dK kvs)) : k9 H a (kV k) (yS kvs k) := .inl ⟨kvs, k, .inl e, rfl, rfl⟩
theorem k9.t {H : Hp} {a b : Addr} {kvs : List (List Key × V)} {k : List Key} (e : H a = some (.dT kvs)) (eb : H b = some (.tup (k.map kV))) : k9 H a (.ref b) (yS kvs k) := .inr ⟨kvs, k, b, .inl e, rfl, eb, rfl⟩
theorem Za.k {H : Hp} {a : Addr} {kvs : List (Key × V)} {k : Key} {v : V} (e : H a = some (.dK kvs)) (hl : kvs.length < sizeLine) : Za H a (kV k) v (upd H a (.dK (vc kvs k v))) := .inl ⟨kvs, k, e, rfl, hl, rfl⟩
theorem Za.t {H : Hp} {a b : Addr} {kvs : List (List Key × V)} {k : List Key} {v : V} (e : H a = some (.dT kvs)) (eb : H b = some (.tup (k.map kV))) (hl : kvs.length < sizeLine) :
    Za H a (.ref b) v (upd H a (.dT (vc kvs k v))) := .inr ⟨kvs, k, b, e, rfl, eb, hl, rfl⟩
section
variable {X : Cx} {pins : List (Addr × Obj)} {σ : St} {H : Hp} {s : Shared} {a : Addr} {y v : V} {u r : Value} {o : Option V} {A : Around} {E : Value → Shared → Prop}
theorem Inv.big (I : Inv X pins σ H s) : sysModules < s.heap.objs.size := by
  have h : mainGlobals < s.heap.objs.size := (I.mod.glob.keeps I.bk).lt
  exact Nat.lt_trans (by decide) h
end
section
variable {X : Cx} {pins : List (Addr × Obj)} {σ : St} {H : Hp} {s : Shared} {a : Addr} {kvs : List (Key × V)} {k : Key} {u : Value} {A : Around} {E : Value → Shared → Prop}
end
section
variable {X : Cx} {o i e value : Expr} {pos pos' tpos : Pos} {td ty tv : TE}
end
theorem Y4 {P : Program} {w : World} {H : Hp} (h : Heap) (hb : sysModules < h.objs.size) : zI P w H (h.push { cls := .type "dict", data := .dict #[] }) h.objs.size (.dK []) :=
  ⟨Nat.zero_le _, beq_eq_false_iff_ne.mpr (Ne.symm (Nat.ne_of_lt hb)), [], .nil, Heap.DictOf.new h⟩
noncomputable def ZW : TE := fun _ H Q => ∀ p, H p = none → Q (.ref p) (upd H p (.dK []))
section
variable {X : Cx} {pos : Pos}
theorem Y5 : PE X (.Dict [] [] pos) ZW := fun pins s σ H Q I h =>
  wpAny_Dict_empty ⟨.ref s.heap.objs.size, _, I.laid (a := s.heap.objs.size) (o := .dK []) (t' := s.toks) (fun _ _ q => Heap.get?_push_of_some _ q) (Nat.le_refl _) (Y4 s.heap I.big), rfl, h _ (I.hok.fresh (Nat.le_refl _))⟩
end
section
variable {X : Cx} {pins : List (Addr × Obj)} {σ : St} {H : Hp} {s : Shared} {a : Addr} {y d : V} {u r : Value} {o : Option V} {A : Around} {E : Value → Shared → Prop}
end
section
variable {X : Cx} {o e f : Expr} {apos cpos : Pos} {td ty tx : TE}
end
section
variable {X : Cx} {pins : List (Addr × Obj)} {σ : St} {H : Hp} {s : Shared} {a : Addr} {kvs : List (Key × V)} {A : Around} {E : Value → Shared → Prop}
end
section
variable {X : Cx} {pins : List (Addr × Obj)} {σ : St} {H : Hp} {s : Shared} {a : Addr} {y : V} {u : Value} {A : Around} {E : Value → Shared → Prop}
end
end L2
namespace PySem
section
variable {prog : Program} {w : World} {A : Around} {E : Value → Shared → Prop} {s : Shared}
end
section
variable {prog : Program} {w : World} {A : Around} {K : Type} [DecidableEq K] {knd : KeyKind prog w K}
end
end PySem
namespace PySem
open PySem PySem.W PySem.Calls PyProof.Rows
section
variable {prog : Program} {w : World} {A : Around} {E : Value → Shared → Prop} {s : Shared} {T : String} {r d : Addr} {n : Nat} {P : Nat → Value → Prop} {OK : Heap → Prop}
end
end PySem
namespace L2
open PySem PySem.Spec PyProof.Rows
theorem Inv.turnedL {X : Cx} {pins : List (Addr × Obj)} {σ : St} {H : Hp} {s : Shared} {h' : Heap} {t' : Nat} {fp : List Addr} (I : Inv X pins σ H s) (k : ∀ b o, b ∉ fp → s.heap.get? b = some o → h'.get? b = some o)
    (hf : ∀ b ∈ fp, FpOk X pins H b) : Inv X pins σ H { s with heap := h', toks := t' } := by
  have nit : ∀ b u, H b = some u → b ∉ fp := fun b u e z => by rw [(hf b z).1] at e; cases e
  refine I.step (g' := s.gens) (d' := s.drawn) (ch := fp) (fun b hb => ?_) (fun b o _ _ hc e _ => k b o hc e) (fun b o _ _ hc e _ => ⟨o.slots, k b o hc e⟩) (fun _ _ _ _ n => n)
    (fun b o hc e => ⟨o, k b o hc e⟩) (fun _ _ e => e) (fun _ _ _ e => e) (fun b ps e => ⟨#[], by rw [e]; simp⟩) (fun m hm => ?_) (fun b u e => ?_) I.bare
  · obtain ⟨f0, f1, f2, f3, f4, f5⟩ := hf b hb
    exact ⟨f3, f1, f4, f5⟩
  · obtain ⟨o, es, ep, ho, r⟩ := hm
    exact ⟨o, es, ep, k _ o (fun z => (hf _ z).2.1 rfl) ho, r⟩
  · refine (I.hok b u e).stay (fun c v hc q => k c v ?_ q) (fun _ q => q) fun _ _ q => q
    rcases hc with z | z
    · rw [z]; exact nit b u e
    · exact nit c _ z
noncomputable def Ite (K : PySem.W.Frag) (a : Addr) : It :=
  ⟨fun i H => ∃ xs x, SqL K H a xs ∧ xs[i]? = some x, fun i H x H' => ∃ t y, x = .ref t ∧ H t = none ∧ H' = upd H t (.tup [.int i, y]) ∧ ∀ xs, SqL K H a xs → xs[i]? = some y, fun i H => ∃ xs, SqL K H a xs ∧ xs.length ≤ i⟩
section
variable {X : Cx}
end
noncomputable def XZ (K : PySem.W.Frag) (a : Addr) (g : TG) (tb : TS) (D : Ends) (σ : St) (H : Hp) : Prop := ∃ W : Nat → Nat → St → Hp → Prop, (∃ m, W 0 m σ H) ∧ ∀ i m σ H, W i m σ H →
  ((Ite K a).stop i H ∧ D.nx σ H) ∨ ((Ite K a).go i H ∧ ∃ N : St → Hp → Prop, (∀ σ' H', N σ' H' → ∃ m', m' < m ∧ W (i + 1) m' σ' H') ∧ ∀ x H', (Ite K a).yld i H x H' → g x σ H' fun σ2 H2 => tb { D with nx := N, ct := N, bk := D.nx } σ2 H2)
theorem XZ.run {K : PySem.W.Frag} {a : Addr} {xs : List V} {g : TG} {tb : TS} {D : Ends} {σ : St} {H : Hp} (Pv : Nat → St → Hp → Prop) (h0 : Pv 0 σ H) (hl : ∀ i σ H, i ≤ xs.length → Pv i σ H → SqL K H a xs)
    (hs : ∀ i x σ H t, xs[i]? = some x → Pv i σ H → H t = none → ∀ R : St → Hp → Prop, (∀ σ' H', Pv (i + 1) σ' H' → R σ' H') → g (.ref t) σ (upd H t (.tup [.int i, x])) fun σ2 H2 => tb { D with nx := R, ct := R, bk := D.nx } σ2 H2) (hd : ∀ σ H, Pv xs.length σ H → D.nx σ H) :
    XZ K a g tb D σ H := by
  refine ⟨fun i m σ H => m = xs.length - i ∧ i ≤ xs.length ∧ Pv i σ H, ⟨xs.length, by simp, Nat.zero_le _, h0⟩, ?_⟩
  rintro i m σ H ⟨rfl, hi, p⟩
  have q := hl i σ H hi p
  by_cases hlt : i < xs.length
  · refine .inr ⟨⟨xs, xs[i], q, by simp [hlt]⟩, Pv (i + 1), fun σ' H' p' => ⟨xs.length - (i + 1), by omega, rfl, hlt, p'⟩, ?_⟩
    rintro _ _ ⟨t, y, rfl, ht, rfl, hy⟩
    exact hs i y σ H t (hy xs q) p ht _ fun _ _ z => z
  · have e : i = xs.length := by omega
    subst e
    exact .inl ⟨⟨xs, q, Nat.le_refl _⟩, hd σ H p⟩
end L2
namespace L2
open PySem PySem.Spec PyProof.Rows
section
variable {X : Cx} {tg : Expr}
noncomputable def R3 (i j c : Int) (n : Nat) : Prop := c ≠ 0 ∧ Builtin.Range.small i j c = true ∧ Builtin.Range.rangeSize i j c = n ∧ Builtin.divisionGoesByPylong (j - i) c = false
end
section
variable {X : Cx}
noncomputable def yN (K : PySem.W.Frag) (H : Hp) : List V → List (Key × V) → Prop := Paired fun y kv => ∃ t, y = .ref t ∧ SqT K H t [kV kv.1, kv.2]
theorem yN.get {K : PySem.W.Frag} {H : Hp} : ∀ {ys : List V} {kvs : List (Key × V)} {j : Nat} {kv : Key × V}, yN K H ys kvs → kvs[j]? = some kv → ∃ t, ys[j]? = some (.ref t) ∧ SqT K H t [kV kv.1, kv.2]
  | _, _, _, _, .nil, e => by simp at e
  | _, _, 0, _, .cons r _, e => by
    simp at e
    subst e
    obtain ⟨t, rfl, h⟩ := r
    exact ⟨t, rfl, h⟩
  | _, _, j + 1, kv, .cons _ q, e => by
    obtain ⟨t, h1, h2⟩ := yN.get (j := j) (kv := kv) q (by simpa using e)
    exact ⟨t, by simpa using h1, h2⟩
theorem yN.snoc {K : PySem.W.Frag} {H : Hp} {y : V} {kv : Key × V} (hy : ∃ t, y = .ref t ∧ SqT K H t [kV kv.1, kv.2]) : ∀ {ys : List V} {kvs : List (Key × V)}, yN K H ys kvs → yN K H (ys ++ [y]) (kvs ++ [kv])
  | _, _, .nil => .cons hy .nil
  | _, _, .cons r q => .cons r (yN.snoc hy q)
theorem yN.keep {K : PySem.W.Frag} {H H' : Hp} {ys : List V} {kvs : List (Key × V)} (h : yN K H ys kvs) (k : ∀ b xs, SqT K H b xs → SqT K H' b xs) : yN K H' ys kvs :=
  Paired.imp' (fun y kv ⟨t, e, q⟩ => ⟨t, e, k t _ q⟩) h
end
end L2
namespace L2
open PySem PySem.Spec PyProof.Rows
section
variable {X : Cx} {pos : Pos}
end
section
variable {X : Cx} {k : Nat} {sp : Sp} {C : Addr} {x : Str} {p pos : Pos} {e : Expr} {es : List Expr} {t : TA}
end
noncomputable def Itf (f : Nat → Int) (n : Nat) : It := ⟨fun i _ => i < n, fun i H x H' => H' = H ∧ x = .int (f i), fun i _ => n ≤ i⟩
noncomputable def LcF (n0 : Nat) (f : Nat → Int) (g : TG) (tt : TT) (te : TE) (σ0 : St) (H1 : Hp) (Q : VK) : Prop := ∀ D, H1 D = none → ∃ W : Nat → Nat → St → Hp → Prop, (∃ m, W 0 m σ0 (upd H1 D (.lst []))) ∧ ∀ i m σ' H', W i m σ' H' →
  ((Itf f n0).stop i H' ∧ Q (.ref D) H') ∨ ((Itf f n0).go i H' ∧ ∃ Nx : St → Hp → Prop, (∀ σ2 H2, Nx σ2 H2 → ∃ m', m' < m ∧ W (i + 1) m' σ2 H2) ∧
    ∀ x H2, (Itf f n0).yld i H' x H2 → g x σ' H2 fun σ3 H3 => tt σ3 H3 fun ok H4 => if ok = true then te σ3 H4 fun y H5 => ∃ ys, H5 D = some (.lst ys) ∧ ys.length < sizeLine ∧ Nx σ3 (upd H5 D (.lst (ys ++ [y]))) else Nx σ3 H4)
theorem LcF.by {n0 : Nat} {f : Nat → Int} {g : TG} {tt : TT} {te : TE} {σ0 : St} {H1 : Hp} {Q : VK} (Pv : Addr → Nat → St → Hp → Prop) (h0 : ∀ D, H1 D = none → Pv D 0 σ0 (upd H1 D (.lst [])))
    (hs : ∀ D i σ H, H1 D = none → i < n0 → Pv D i σ H → g (.int (f i)) σ H fun σ3 H3 => tt σ3 H3 fun ok H4 => if ok = true then te σ3 H4 fun y H5 => ∃ ys, H5 D = some (.lst ys) ∧ ys.length < sizeLine ∧ Pv D (i + 1) σ3 (upd H5 D (.lst (ys ++ [y]))) else Pv D (i + 1) σ3 H4)
    (hd : ∀ D σ H, H1 D = none → Pv D n0 σ H → Q (.ref D) H) : LcF n0 f g tt te σ0 H1 Q := by
  intro D hD
  refine ⟨fun i m σ H => m = n0 - i ∧ i ≤ n0 ∧ Pv D i σ H, ⟨n0, by simp, Nat.zero_le _, h0 D hD⟩, ?_⟩
  rintro i m σ H ⟨rfl, hi, p⟩
  by_cases hlt : i < n0
  · refine .inr ⟨hlt, Pv D (i + 1), fun σ' H' p' => ⟨n0 - (i + 1), by omega, rfl, hlt, p'⟩, fun x H' y => ?_⟩
    obtain ⟨e, y⟩ := y
    subst e y
    exact hs D i σ _ hD hlt p
  · have e : i = n0 := by omega
    subst e
    exact .inl ⟨Nat.le_refl _, hd D σ H hD p⟩
end L2
namespace L2
open PySem PySem.Spec PyProof.Rows
noncomputable def X0 (K : PySem.W.Frag) (a : Addr) (g : TG) (tb : TS) (D : Ends) (σ : St) (H : Hp) : Prop := ∃ W : Nat → Nat → St → Hp → Prop, (∃ m, W 0 m σ H) ∧ ∀ i m σ H, W i m σ H →
  ((Itt K a).stop i H ∧ D.nx σ H) ∨ ((Itt K a).go i H ∧ ∃ N : St → Hp → Prop, (∀ σ' H', N σ' H' → ∃ m', m' < m ∧ W (i + 1) m' σ' H') ∧ ∀ x H', (Itt K a).yld i H x H' → g x σ H' fun σ2 H2 => tb { D with nx := N, ct := N, bk := D.nx } σ2 H2)
theorem X0.run {K : PySem.W.Frag} {a : Addr} {xs : List V} {g : TG} {tb : TS} {D : Ends} {σ : St} {H : Hp} (Pv : Nat → St → Hp → Prop) (h0 : Pv 0 σ H) (hl : ∀ i σ H, i ≤ xs.length → Pv i σ H → SqT K H a xs)
    (hs : ∀ i x σ H, xs[i]? = some x → Pv i σ H → ∀ R : St → Hp → Prop, (∀ σ' H', Pv (i + 1) σ' H' → R σ' H') → g x σ H fun σ2 H2 => tb { D with nx := R, ct := R, bk := D.nx } σ2 H2) (hd : ∀ σ H, Pv xs.length σ H → D.nx σ H) : X0 K a g tb D σ H :=
  VD Pv h0 hl (fun i x σ H hi p => hs i x σ H hi p _ fun _ _ z => z) hd
end L2
namespace L2
open PySem PySem.Spec PyProof.Rows
noncomputable def cE : Expr → Option V
  | .Constant (.int i) _ _ => some (.int i)
  | .Constant .none _ _ => some .non
  | .Constant (.bool b) _ _ => some (.bl b)
  | .Constant (.str x) _ _ => some (.str x)
  | _ => none
noncomputable def Zb : List Expr → Option (List V)
  | [] => some []
  | e :: es => match cE e, Zb es with
    | some v, some vs => some (v :: vs)
    | _, _ => none
noncomputable def tCs (vs : List V) : TA := fun _ H Q => Q vs H
theorem Q8 {X : Cx} {e : Expr} {v : V} (h : cE e = some v) : PE X e (tC v) := by
  unfold cE at h
  split at h
  · cases h; exact zb
  · cases h; exact vS
  · cases h; exact xQ
  · cases h; exact zn
  · cases h
theorem VP {e : Expr} {v : V} (h : cE e = some v) : ji e = true := by
  unfold cE at h
  split at h <;> first | rfl | cases h
theorem ZX {X : Cx} : ∀ {es : List Expr} {vs : List V}, Zb es = some vs → QA X es (tCs vs)
  | [], vs, h => by
    cases h
    exact qn
  | e :: es, vs, h => by
    simp only [Zb] at h
    split at h
    · rename_i v ws h1 h2
      cases h
      exact qc (Q8 h1) (ZX h2) (VP h1)
    · cases h
theorem km {X : Cx} {es : List Expr} {vs : List V} {pos : Pos} (h : Zb es = some vs) : PE X (.List es pos) (uE (tCs vs)) := zC (ZX h)
end L2
namespace L2
open PySem PySem.W PySem.Calls PyProof.Rows
section
variable {X : Cx}
end
end L2
namespace PySem
open PySem PySem.W PySem.Calls PyProof.Rows
section
variable {prog : Program} {w : World} {A : Around} {R : Result → Shared → Prop} {I S : Addr} {fp wr : List Addr} {n : Nat} {P : Nat → Value → Prop} {St : Nat → Heap → Prop}
end
end PySem
namespace L2
open PySem PySem.W PySem.Calls PyProof.Rows
section
variable {X : Cx} {x : Str} {p pos : Pos} {e : Expr} {es : List Expr} {kws : List Keyword} {ks : List Str} {t tk : TA} {id : String} {r : List V → List V → Hp → VK → Prop}
end
end L2
namespace L2
open PySem PySem.Spec PyProof.Rows
section
variable {X : Cx} {k : Nat} {sp : Sp} {C : Addr} {m : Str} {apos pos : Pos} {o e : Expr} {es : List Expr} {ta : TE} {t : TA}
end
end L2
namespace L2
open PySem PySem.Spec PyProof.Rows
structure SV where
  wide : Int
  high : Int
  row : Int
  col : Int
  late : Bool
  ink : Int
  wrap : Bool
  putting : Bool
  home : Bool
  top : Int
  bottom : Int
  left : Int
  right : Int
  last : V
section
variable {p st kp : Addr} {S : SV}
end
section
variable {sl : Addr} {S : SV}
end
section
variable {X : Cx} {o i value : Expr} {td ty tv : TE} {pos pos' : Pos}
theorem PE.cl {e : Expr} {t : TE} (h : PE X e t) : PE X e (fun σ H Q => ∃ Q' : VK, t σ H Q' ∧ ∀ x H1, Q' x H1 → Q x H1) := fun pins s σ H Q I ⟨Q', q, w⟩ =>
  thn (h pins s σ H Q' I q) fun v s1 ⟨x, H1, I1, r1, q1⟩ => ⟨x, H1, I1, r1, w x H1 q1⟩
end
end L2
namespace L2
open PySem PySem.Spec PyProof.Rows
noncomputable def Sh (i : Int) : Prop := -1000000 ≤ i ∧ i ≤ 1000000
theorem qr {K : PySem.W.Frag} {H : Hp} : ∀ ns : List Int, Reps K H (ns.map .int) (ns.map V.int)
  | [] => rfl
  | n :: ns => ⟨_, _, rfl, rfl, qr ns⟩
theorem Sh.log {i : Int} (h : Sh i) : i.natAbs.log2 < 20 := by
  obtain ⟨h1, h2⟩ := h
  by_cases h0 : i.natAbs = 0
  · rw [h0]; decide
  · exact (Nat.log2_lt h0).mpr (by omega)
theorem Sh.w {i : Int} (h : Sh i) : PyData.weight (.int i) ≤ 21 := by
  have := h.log
  simp only [PyData.weight]
  split <;> omega
theorem Sh.short {i : Int} (h : Sh i) : PyData.intsShort 13 (.int i) = true := by
  obtain ⟨h1, h2⟩ := h
  have q : (toString i).length ≤ 7 + 1 := int_text_length_le10 (by decide) (show i.natAbs < 10 ^ 7 by omega)
  have e : (PyData.int i).shown.length = (toString i).length := by
    simp only [PyData.shown]
    exact PySem.ofString_length _
  simp only [PyData.intsShort, decide_eq_true_eq]
  omega
end L2
namespace L2
open PySem PySem.Spec PyProof.Rows
end L2
namespace L2
open PySem PySem.Spec PyProof.Rows
inductive W where
  | d (x : PyData)
  | own (a : Addr)
  | row (a : Addr) (i : Nat)
inductive OO where
  | lst (ws : List W)
  | dK (kvs : List (Key × W))
  | ins (C dx : Addr) (fs : List (Str × W))
  | grid (rows : List (List PyData))
noncomputable abbrev OM := Addr → Option OO
noncomputable def updO (O : OM) (a : Addr) (o : OO) : OM := fun b => if b = a then some o else O b
noncomputable def del (O : OM) (a : Addr) : OM := fun b => if b = a then none else O b
theorem zp {O : OM} {a : Addr} {o : OO} : updO O a o a = some o := by simp [updO]
theorem zh {O : OM} {a b : Addr} {o : OO} (h : b ≠ a) : updO O a o b = O b := by simp [updO, h]
theorem yF {O : OM} {a : Addr} : del O a a = none := by simp [del]
theorem yR {O : OM} {a b : Addr} (h : b ≠ a) : del O a b = O b := by simp [del, h]
theorem ZY {O : OM} {a : Addr} {o u : OO} : updO (updO O a o) a u = updO O a u := by
  funext b; unfold updO; split <;> rfl
structure Gh where
  Z : Hp
  G : Addr → Option (List Addr)
  F : Hp
structure Le (Γ Γ' : Gh) : Prop where
  f : Γ'.F = Γ.F
  z : Same Γ.Z Γ'.Z
  g : ∀ a rs, Γ.G a = some rs → ∃ more, Γ'.G a = some (rs ++ more)
theorem Le.refl (Γ : Gh) : Le Γ Γ := ⟨rfl, Same.refl _, fun _ rs h => ⟨[], by rw [List.append_nil]; exact h⟩⟩
theorem Le.trans {Γ Γ1 Γ2 : Gh} (a : Le Γ Γ1) (b : Le Γ1 Γ2) : Le Γ Γ2 := ⟨b.f.trans a.f, a.z.trans b.z, fun x rs h => by
  obtain ⟨m, h1⟩ := a.g x rs h
  obtain ⟨m2, h2⟩ := b.g x _ h1
  exact ⟨m ++ m2, by rw [← List.append_assoc]; exact h2⟩⟩
theorem Le.zOnly {Γ : Gh} {Z : Hp} (h : Same Γ.Z Z) : Le Γ ⟨Z, Γ.G, Γ.F⟩ := ⟨rfl, h, fun _ rs h => ⟨[], by rw [List.append_nil]; exact h⟩⟩
section
variable (K : PySem.W.Frag)
noncomputable def relW (Γ : Gh) : W → V → Prop
  | .d x, v => Rep K Γ.Z x v
  | .own a, v => v = .ref a
  | .row a i, v => ∃ rs r, Γ.G a = some rs ∧ rs[i]? = some r ∧ v = .ref r
noncomputable abbrev relWs (Γ : Gh) : List W → List V → Prop := Paired (relW K Γ)
noncomputable def vq (Γ : Gh) : Option W → Option V → Prop
  | some w, some v => relW K Γ w v
  | none, _ => True
  | _, _ => False
noncomputable abbrev relR (Γ : Gh) : List (Option W) → St → Prop := Paired (vq K Γ)
noncomputable def ua {κ : Type} (Γ : Gh) : List (κ × W) → List (κ × V) → Prop := Paired fun p q => p.1 = q.1 ∧ relW K Γ p.2 q.2
noncomputable def ObjW (Γ : Gh) (O : OM) (H : Hp) (a : Addr) : OO → Prop
  | .lst ws => ∃ vs, H a = some (.lst vs) ∧ relWs K Γ ws vs
  | .dK kvs => ∃ vs, H a = some (.dK vs) ∧ ua K Γ kvs vs
  | .ins C dx fs => ∃ vs, H a = some (.ins C dx vs) ∧ ua K Γ fs vs
  | .grid rows => ∃ rs, Γ.G a = some rs ∧ H a = some (.lst (rs.map V.ref)) ∧ rs.length = rows.length ∧ rs.Nodup ∧
      ∀ (i : Nat) (r : Addr) (ds : List PyData), rs[i]? = some r → rows[i]? = some ds → Γ.Z r = none ∧ O r = none ∧ ∃ vs, H r = some (.lst vs) ∧ Reps K Γ.Z ds vs
structure Sim (Γ : Gh) (O : OM) (H : Hp) : Prop where
  z : Same Γ.Z H
  o : ∀ a oo, O a = some oo → Γ.Z a = none ∧ ObjW K Γ O H a oo
  gd : ∀ a rs, Γ.G a = some rs → ∃ o, H a = some o
  f : Same Γ.F H
  gn : ∀ a oo, O a = some oo → (∀ rows, oo ≠ .grid rows) → Γ.G a = none
  fg : ∀ a o, Γ.F a = some o → Γ.G a = none
  fd : ∀ a o, Γ.F a = some o → Γ.Z a = none ∧ O a = none ∧ ∀ b rows rs, O b = some (.grid rows) → Γ.G b = some rs → a ∉ rs
  u : ∀ a b ra rb rs ss r, O a = some (.grid ra) → O b = some (.grid rb) → Γ.G a = some rs → Γ.G b = some ss → r ∈ rs → r ∈ ss → a = b
end
section
variable {K : PySem.W.Frag} {Γ Γ' : Gh} {O : OM} {H H' : Hp}
theorem relW.mono (h : Le Γ Γ') : ∀ {w : W} {v : V}, relW K Γ w v → relW K Γ' w v
  | .d x, v, r => Rep.same h.z x v r
  | .own a, v, r => r
  | .row a i, v, ⟨rs, r, e, f, g⟩ => by
    obtain ⟨m, e'⟩ := h.g _ _ e
    have hi : i < rs.length := (List.getElem?_eq_some_iff.mp f).1
    exact ⟨rs ++ m, r, e', by rw [List.getElem?_append_left hi]; exact f, g⟩
theorem relWs.mono (h : Le Γ Γ') {ws : List W} {vs : List V} (r : relWs K Γ ws vs) : relWs K Γ' ws vs := Paired.mapP r fun _ _ z => z.mono h
theorem vq.mono (h : Le Γ Γ') : ∀ {w : Option W} {v : Option V}, vq K Γ w v → vq K Γ' w v
  | some w, some v, r => relW.mono h r
  | none, _, _ => trivial
  | some _, none, r => r.elim
theorem relR.mono (h : Le Γ Γ') {ρ : List (Option W)} {σ : St} (r : relR K Γ ρ σ) : relR K Γ' ρ σ := Paired.mapP r fun _ _ z => z.mono h
theorem ua.mono {κ : Type} (h : Le Γ Γ') {a : List (κ × W)} {b : List (κ × V)} (r : ua K Γ a b) : ua K Γ' a b := Paired.mapP r fun _ _ z => ⟨z.1, z.2.mono h⟩
theorem relR.get {ρ : List (Option W)} {σ : St} : ∀ {i : Nat} {w : W}, relR K Γ ρ σ → ρ[i]? = some (some w) → ∃ v, σ[i]? = some (some v) ∧ relW K Γ w v := by
  intro i w r
  induction r generalizing i with
  | nil => intro e; simp at e
  | cons h t ih =>
    rename_i x y xs ys
    intro e
    cases i with
    | zero =>
      simp at e
      subst e
      cases y with
      | none => exact h.elim
      | some v => exact ⟨v, rfl, h⟩
    | succ i => simpa using ih (i := i) (by simpa using e)
theorem Paired.getP {α β : Type} {F : α → β → Prop} {xs : List α} {ys : List β} (r : Paired F xs ys) : ∀ {i : Nat} {x : α}, xs[i]? = some x → ∃ y, ys[i]? = some y ∧ F x y := by
  induction r with
  | nil => intro i x e; simp at e
  | cons h t ih =>
    intro i x e
    cases i with
    | zero => simp at e; subst e; exact ⟨_, rfl, h⟩
    | succ i => simpa using ih (i := i) (by simpa using e)
theorem Paired.getQ {α β : Type} {F : α → β → Prop} {xs : List α} {ys : List β} (r : Paired F xs ys) : ∀ {i : Nat} {y : β}, ys[i]? = some y → ∃ x, xs[i]? = some x ∧ F x y := by
  induction r with
  | nil => intro i x e; simp at e
  | cons h t ih =>
    intro i x e
    cases i with
    | zero => simp at e; subst e; exact ⟨_, rfl, h⟩
    | succ i => simpa using ih (i := i) (by simpa using e)
theorem Paired.setP {α β : Type} {F : α → β → Prop} {xs : List α} {ys : List β} {x : α} {y : β} (r : Paired F xs ys) (h : F x y) : ∀ {i : Nat}, Paired F (xs.set i x) (ys.set i y) := by
  induction r with
  | nil => intro i; exact .nil
  | cons g t ih =>
    intro i
    cases i with
    | zero => exact .cons h t
    | succ i => exact .cons g ih
theorem Paired.appP {α β : Type} {F : α → β → Prop} {xs xs' : List α} {ys ys' : List β} (r : Paired F xs ys) (s : Paired F xs' ys') : Paired F (xs ++ xs') (ys ++ ys') := by
  induction r with
  | nil => exact s
  | cons h t ih => exact .cons h ih
theorem Paired.takeP {α β : Type} {F : α → β → Prop} {xs : List α} {ys : List β} (r : Paired F xs ys) : ∀ n, Paired F (xs.take n) (ys.take n) := by
  induction r with
  | nil => intro n; simp; exact .nil
  | cons h t ih =>
    intro n
    cases n with
    | zero => exact .nil
    | succ n => exact .cons h (ih n)
theorem Paired.dropP {α β : Type} {F : α → β → Prop} {xs : List α} {ys : List β} (r : Paired F xs ys) : ∀ n, Paired F (xs.drop n) (ys.drop n) := by
  induction r with
  | nil => intro n; simp; exact .nil
  | cons h t ih =>
    intro n
    cases n with
    | zero => exact .cons h t
    | succ n => exact ih n
theorem zG : ∀ {ds : List PyData} {vs : List V}, Reps K Γ.Z ds vs → relWs K Γ (ds.map .d) vs
  | [], _, h => by rw [show _ = [] from h]; exact .nil
  | d :: ds, _, h => by
    obtain ⟨x, r, rfl, h1, h2⟩ := h
    exact .cons h1 (zG h2)
theorem zk : ∀ {ds : List PyData} {vs : List V}, relWs K Γ (ds.map .d) vs → Reps K Γ.Z ds vs
  | [], _, h => by cases h; rfl
  | d :: ds, _, h => by
    cases h with
    | cons a b => exact ⟨_, _, rfl, a, zk b⟩
noncomputable def zB (O : OM) : W → Option (List W)
  | .d (.list ds) => some (ds.map .d)
  | .own a => match O a with
    | some (.lst ws) => some ws
    | some (.grid rows) => some ((List.range rows.length).map (.row a))
    | _ => none
  | .row a i => match O a with
    | some (.grid rows) => (rows[i]?).map (·.map .d)
    | _ => none
  | _ => none
noncomputable def yz : W → Option (List PyData)
  | .d (.tuple ds) => some ds
  | _ => none
theorem xK {w : W} {v : V} {ds : List PyData} (S : Sim K Γ O H) (r : relW K Γ w v) (e : yz w = some ds) : ∃ a vs, v = .ref a ∧ SqT K H a vs ∧ relWs K Γ (ds.map .d) vs := by
  cases w with
  | d x =>
    cases x with
    | tuple es =>
      simp [yz] at e
      subst e
      obtain ⟨a, xs, e1, h1, h2⟩ := r
      exact ⟨a, xs, e1, h1.same S.z, zG h2⟩
    | _ => simp [yz] at e
  | own a => simp [yz] at e
  | row a i => simp [yz] at e
theorem zU {w : W} {v : V} {ws : List W} (S : Sim K Γ O H) (r : relW K Γ w v) (e : zB O w = some ws) : ∃ a vs, v = .ref a ∧ SqL K H a vs ∧ relWs K Γ ws vs := by
  cases w with
  | d x =>
    cases x with
    | list es =>
      simp [zB] at e
      subst e
      obtain ⟨a, xs, e1, h1, h2⟩ := r
      exact ⟨a, xs, e1, h1.same S.z, zG h2⟩
    | _ => simp [zB] at e
  | own a =>
    cases (show v = .ref a from r)
    simp only [zB] at e
    split at e
    · rename_i us h
      cases e
      obtain ⟨_, vs, h1, h2⟩ := S.o _ _ h
      exact ⟨a, vs, rfl, SqL.of h1, h2⟩
    · rename_i rows h
      cases e
      obtain ⟨_, rs, hg, h1, hl, _, _⟩ := S.o _ _ h
      refine ⟨a, _, rfl, SqL.of h1, ?_⟩
      rw [← hl]
      have key : ∀ (ss : List Addr) (k : Nat), (∀ i, ss[i]? = rs[k + i]?) → relWs K Γ ((List.range' k ss.length).map (W.row a)) (ss.map V.ref) := by
        intro ss
        induction ss with
        | nil => intro k _; exact .nil
        | cons s ss ih =>
          intro k hk
          refine .cons ⟨rs, s, hg, ?_, rfl⟩ (ih (k + 1) fun i => ?_)
          · have := hk 0; simpa using this.symm
          · have := hk (i + 1)
            rw [List.getElem?_cons_succ] at this
            rw [this]
            congr 1
            omega
      have h0 := key rs 0 (fun i => by rw [Nat.zero_add])
      rw [List.range_eq_range']
      exact h0
    · cases e
  | row a i =>
    obtain ⟨rs, r0, hg, hr, rfl⟩ := r
    simp only [zB] at e
    split at e
    · rename_i rows h
      cases hi : rows[i]? with
      | none => rw [hi] at e; cases e
      | some ds =>
        rw [hi] at e
        cases e
        obtain ⟨_, rs', hg', h1, hl, _, hrow⟩ := S.o _ _ h
        rw [hg] at hg'
        cases hg'
        obtain ⟨_, _, vs, h2, h3⟩ := hrow i r0 ds hr hi
        exact ⟨r0, vs, rfl, SqL.of h2, zG h3⟩
    · cases e
noncomputable def zQ : List W → Option (List PyData)
  | [] => some []
  | .d x :: ws => (zQ ws).map (x :: ·)
  | _ :: _ => none
theorem zi : ∀ ds : List PyData, zQ (ds.map .d) = some ds
  | [] => rfl
  | d :: ds => by simp [zQ, zi ds]
theorem z9 : ∀ {ws : List W} {ds : List PyData}, zQ ws = some ds → ws = ds.map .d
  | [], ds, e => by cases e; rfl
  | .d x :: ws, ds, e => by
    simp [zQ] at e
    obtain ⟨es, h1, h2⟩ := e
    subst h2
    rw [z9 h1]
    rfl
  | .own _ :: _, _, e => by simp [zQ] at e
  | .row _ _ :: _, _, e => by simp [zQ] at e
noncomputable def uK (O : OM) : W → Option PyData
  | .d x => some x
  | .own a => match O a with
    | some (.lst ws) => (zQ ws).map .list
    | some (.grid rows) => some (.list (rows.map .list))
    | _ => none
  | .row a i => match O a with
    | some (.grid rows) => (rows[i]?).map .list
    | _ => none
theorem vG {w : W} {v : V} {x : PyData} (S : Sim K Γ O H) (r : relW K Γ w v) (e : uK O w = some x) : Rep K H x v := by
  cases w with
  | d y => cases e; exact Rep.same S.z _ _ r
  | own a =>
    cases (show v = .ref a from r)
    simp only [uK] at e
    split at e
    · rename_i ws h
      cases hd : zQ ws with
      | none => rw [hd] at e; cases e
      | some ds =>
        rw [hd] at e
        cases e
        obtain ⟨_, vs, h1, h2⟩ := S.o _ _ h
        rw [z9 hd] at h2
        exact ⟨a, vs, rfl, SqL.of h1, Reps.same S.z _ _ (zk h2)⟩
    · rename_i rows h
      cases e
      obtain ⟨_, rs, hg, h1, hl, _, hrow⟩ := S.o _ _ h
      refine ⟨a, _, rfl, SqL.of h1, ?_⟩
      have key : ∀ (rows : List (List PyData)) (rs : List Addr), rs.length = rows.length → (∀ (i : Nat) (r : Addr) (ds : List PyData), rs[i]? = some r → rows[i]? = some ds → ∃ vs, H r = some (.lst vs) ∧ Reps K Γ.Z ds vs) → Reps K H (rows.map .list) (rs.map V.ref) := by
        intro rows
        induction rows with
        | nil => intro rs hl _; cases rs with | nil => rfl | cons _ _ => simp at hl
        | cons row rows ih =>
          intro rs hl hr
          cases rs with
          | nil => simp at hl
          | cons r rs =>
            obtain ⟨vs, h1, h2⟩ := hr 0 r row rfl rfl
            exact ⟨.ref r, _, rfl, ⟨r, vs, rfl, SqL.of h1, Reps.same S.z _ _ h2⟩, ih rs (by simpa using hl) fun i r ds a b => hr (i + 1) r ds (by simpa using a) (by simpa using b)⟩
      exact key rows rs hl fun i r ds a b => (hrow i r ds a b).2.2
    · cases e
  | row a i =>
    obtain ⟨rs, r0, hg, hr, rfl⟩ := r
    simp only [uK] at e
    split at e
    · rename_i rows h
      cases hi : rows[i]? with
      | none => rw [hi] at e; cases e
      | some ds =>
        rw [hi] at e
        cases e
        obtain ⟨_, rs', hg', h1, hl, _, hrow⟩ := S.o _ _ h
        rw [hg] at hg'
        cases hg'
        obtain ⟨_, _, vs, h2, h3⟩ := hrow i r0 ds hr hi
        exact ⟨r0, vs, rfl, SqL.of h2, Reps.same S.z _ _ h3⟩
    · cases e
theorem Sim.free (S : Sim K Γ O H) {p : Addr} (hp : H p = none) : Γ.Z p = none ∧ O p = none ∧ Γ.G p = none := by
  refine ⟨S.z.free hp, ?_, ?_⟩
  · cases e : O p with
    | none => rfl
    | some oo =>
      obtain ⟨_, h⟩ := S.o _ _ e
      cases oo with
      | lst ws => obtain ⟨vs, h1, _⟩ := h; rw [hp] at h1; cases h1
      | dK ws => obtain ⟨vs, h1, _⟩ := h; rw [hp] at h1; cases h1
      | ins C dx ws => obtain ⟨vs, h1, _⟩ := h; rw [hp] at h1; cases h1
      | grid rows => obtain ⟨rs, _, h1, _⟩ := h; rw [hp] at h1; cases h1
  · cases e : Γ.G p with
    | none => rfl
    | some rs =>
      obtain ⟨o, h⟩ := S.gd _ _ e
      rw [hp] at h
      cases h
theorem ObjW.keep {a : Addr} {oo : OO} (h : ObjW K Γ O H a oo) (hl : Le Γ Γ') {O' : OM} (ha : H' a = H a) (hG : Γ'.G a = Γ.G a) (hr : ∀ rs r, Γ.G a = some rs → (∃ rows, oo = .grid rows) → r ∈ rs → H' r = H r ∧ Γ'.Z r = Γ.Z r ∧ O' r = O r) : ObjW K Γ' O' H' a oo := by
  cases oo with
  | lst ws => obtain ⟨vs, h1, h2⟩ := h; exact ⟨vs, by rw [ha]; exact h1, h2.mono hl⟩
  | dK ws => obtain ⟨vs, h1, h2⟩ := h; exact ⟨vs, by rw [ha]; exact h1, h2.mono hl⟩
  | ins C dx ws => obtain ⟨vs, h1, h2⟩ := h; exact ⟨vs, by rw [ha]; exact h1, h2.mono hl⟩
  | grid rows =>
    obtain ⟨rs, hg, h1, h2, hn, h3⟩ := h
    refine ⟨rs, by rw [hG]; exact hg, by rw [ha]; exact h1, h2, hn, fun i r ds e1 e2 => ?_⟩
    obtain ⟨q1, q2, q3⟩ := hr rs r hg ⟨rows, rfl⟩ (List.mem_of_getElem? e1)
    obtain ⟨z1, z2, vs, z3, z4⟩ := h3 i r ds e1 e2
    exact ⟨by rw [q2]; exact z1, by rw [q3]; exact z2, vs, by rw [q1]; exact z3, Reps.same hl.z _ _ z4⟩
theorem Sim.rowIn (S : Sim K Γ O H) {a : Addr} {rows : List (List PyData)} {rs : List Addr} {r : Addr} (ho : O a = some (.grid rows)) (hg : Γ.G a = some rs) (hr : r ∈ rs) : Γ.Z r = none ∧ O r = none ∧ ∃ vs, H r = some (.lst vs) := by
  obtain ⟨_, rs', hg', h1, hl, _, hrow⟩ := S.o _ _ ho
  rw [hg] at hg'
  cases hg'
  obtain ⟨i, hi, rfl⟩ := List.mem_iff_getElem.mp hr
  obtain ⟨z1, z2, vs, z3, _⟩ := hrow i rs[i] (rows[i]'(by omega)) (List.getElem?_eq_getElem hi) (List.getElem?_eq_getElem (by omega))
  exact ⟨z1, z2, vs, z3⟩
theorem Sim.newD (S : Sim K Γ O H) {p : Addr} (hp : H p = none) (o : HO) : Le Γ ⟨upd Γ.Z p o, Γ.G, Γ.F⟩ ∧ Sim K ⟨upd Γ.Z p o, Γ.G, Γ.F⟩ O (upd H p o) := by
  obtain ⟨hz, hO, hG⟩ := S.free hp
  have le : Le Γ ⟨upd Γ.Z p o, Γ.G, Γ.F⟩ := Le.zOnly (zP hz)
  have hF := S.f.free hp
  refine ⟨le, ⟨fun b u e => ?_, fun a oo e => ?_, fun a rs e => ?_, xg S.f hF, S.gn, S.fg, fun a o' e => ?_, S.u⟩⟩
  · replace e : upd Γ.Z p o b = some u := e
    by_cases hb : b = p
    · subst hb; rw [ze] at e; rw [ze]; exact e
    · rw [za hb] at e; rw [za hb]; exact S.z _ _ e
  · have hap : a ≠ p := fun z => by rw [z, hO] at e; cases e
    obtain ⟨h1, h2⟩ := S.o _ _ e
    refine ⟨by show upd Γ.Z p o a = none; rw [za hap]; exact h1, h2.keep le (za hap) rfl fun rs r hg ⟨rows, hrw⟩ hr => ?_⟩
    subst hrw
    obtain ⟨_, _, vs, q⟩ := S.rowIn e hg hr
    have hrp : r ≠ p := fun z => by rw [z, hp] at q; cases q
    exact ⟨za hrp, za hrp, rfl⟩
  · obtain ⟨o', h⟩ := S.gd _ _ e
    exact ⟨o', by rw [za (zF h hp)]; exact h⟩
  · obtain ⟨q1, q2, q3⟩ := S.fd a o' e
    exact ⟨(za (zF e hF)).trans q1, q2, q3⟩
theorem Sim.newO (S : Sim K Γ O H) {p : Addr} (hp : H p = none) {o : HO} {oo : OO} (hg : ∀ rows, oo ≠ .grid rows) (ho : ObjW K Γ O (upd H p o) p oo) : Sim K Γ (updO O p oo) (upd H p o) := by
  obtain ⟨hz, hO, hG⟩ := S.free hp
  have hF := S.f.free hp
  have k1 : ∀ {x : Addr} {rx : List (List PyData)}, updO O p oo x = some (.grid rx) → O x = some (.grid rx) := fun {x rx} h => by
    by_cases hx : x = p
    · subst hx; rw [zp] at h; cases h; exact absurd rfl (hg rx)
    · rw [zh hx] at h; exact h
  refine ⟨fun b u e => ?_, fun a o' e => ?_, fun a rs e => ?_, xg S.f hF, fun a o' e hn => ?_, S.fg, fun a o' e => ?_, fun a b ra rb rs ss r e1 e2 => S.u a b ra rb rs ss r (k1 e1) (k1 e2)⟩
  · rw [za (fun z => by rw [z, hz] at e; cases e)]; exact S.z _ _ e
  · by_cases hap : a = p
    · subst hap
      rw [zp] at e
      cases e
      refine ⟨hz, ho.keep (Le.refl _) rfl rfl fun rs r h1 ⟨rows, h2⟩ => absurd h2 (hg rows)⟩
    · rw [zh hap] at e
      obtain ⟨h1, h2⟩ := S.o _ _ e
      refine ⟨h1, h2.keep (Le.refl _) (za hap) rfl fun rs r hg' ⟨rows, hrw⟩ hr => ?_⟩
      subst hrw
      obtain ⟨_, q2, vs, q⟩ := S.rowIn e hg' hr
      have hrp : r ≠ p := fun z => by rw [z, hp] at q; cases q
      exact ⟨za hrp, rfl, zh hrp⟩
  · obtain ⟨o', h⟩ := S.gd _ _ e
    exact ⟨o', by rw [za (zF h hp)]; exact h⟩
  · by_cases hap : a = p
    · rw [hap]; exact hG
    · rw [zh hap] at e; exact S.gn a o' e hn
  · obtain ⟨q1, q2, q3⟩ := S.fd a o' e
    exact ⟨q1, by rw [zh (zF e hF)]; exact q2, fun b rows rs e1 => q3 b rows rs (k1 e1)⟩
theorem Sim.put (S : Sim K Γ O H) {a : Addr} {oo o1 : OO} {o : HO} (h0 : O a = some o1) (hn : ∀ rows, o1 ≠ .grid rows) (hg : ∀ rows, oo ≠ .grid rows) (ho : ObjW K Γ O (upd H a o) a oo) : Sim K Γ (updO O a oo) (upd H a o) := by
  obtain ⟨hz, h1⟩ := S.o _ _ h0
  have k1 : ∀ {x : Addr} {rx : List (List PyData)}, updO O a oo x = some (.grid rx) → O x = some (.grid rx) := fun {x rx} h => by
    by_cases hx : x = a
    · subst hx; rw [zp] at h; cases h; exact absurd rfl (hg rx)
    · rw [zh hx] at h; exact h
  have nF : ∀ b o', Γ.F b = some o' → b ≠ a := fun b o' e z => by
    have := (S.fd b o' e).2.1
    rw [z, h0] at this; cases this
  refine ⟨fun b u e => ?_, fun x o' e => ?_, fun x rs e => ?_, fun b u e => ?_, fun x o' e hn' => ?_, S.fg, fun x o' e => ?_, fun x b ra rb rs ss r e1 e2 => S.u x b ra rb rs ss r (k1 e1) (k1 e2)⟩
  · rw [za (fun z => by rw [z, hz] at e; cases e)]; exact S.z _ _ e
  · by_cases hap : x = a
    · subst hap
      rw [zp] at e
      cases e
      exact ⟨hz, ho.keep (Le.refl _) rfl rfl fun rs r h1 ⟨rows, h2⟩ => absurd h2 (hg rows)⟩
    · rw [zh hap] at e
      obtain ⟨h1, h2⟩ := S.o _ _ e
      refine ⟨h1, h2.keep (Le.refl _) (za hap) rfl fun rs r hg' ⟨rows, hrw⟩ hr => ?_⟩
      subst hrw
      obtain ⟨_, q2, vs, q⟩ := S.rowIn e hg' hr
      have hrp : r ≠ a := fun z => by rw [z, h0] at q2; cases q2
      exact ⟨za hrp, rfl, zh hrp⟩
  · obtain ⟨o', h⟩ := S.gd _ _ e
    by_cases hx : x = a
    · exact ⟨o, by rw [hx, ze]⟩
    · exact ⟨o', by rw [za hx]; exact h⟩
  · rw [za (nF _ _ e)]; exact S.f _ _ e
  · by_cases hap : x = a
    · rw [hap]; exact S.gn a o1 h0 hn
    · rw [zh hap] at e; exact S.gn x o' e hn'
  · obtain ⟨q1, q2, q3⟩ := S.fd x o' e
    exact ⟨q1, by rw [zh (nF _ _ e)]; exact q2, fun b rows rs e1 => q3 b rows rs (k1 e1)⟩
theorem Sim.drop (S : Sim K Γ O H) (a : Addr) : Sim K Γ (del O a) H := by
  have k1 : ∀ {x : Addr} {o : OO}, del O a x = some o → x ≠ a ∧ O x = some o := fun {x o} h => by
    by_cases hx : x = a
    · subst hx; rw [yF] at h; cases h
    · rw [yR hx] at h; exact ⟨hx, h⟩
  refine ⟨S.z, fun x o e => ?_, S.gd, S.f, fun x o e hn => S.gn x o (k1 e).2 hn, S.fg, fun x o e => ⟨(S.fd x o e).1, by unfold del; split; rfl; exact (S.fd x o e).2.1, fun b rows rs e1 => (S.fd x o e).2.2 b rows rs (k1 e1).2⟩, fun x b ra rb rs ss r e1 e2 => S.u x b ra rb rs ss r (k1 e1).2 (k1 e2).2⟩
  obtain ⟨hx, e⟩ := k1 e
  obtain ⟨h1, h2⟩ := S.o _ _ e
  refine ⟨h1, h2.keep (Le.refl _) rfl rfl fun rs r hg ⟨rows, hrw⟩ hr => ?_⟩
  subst hrw
  obtain ⟨_, q2, _⟩ := S.rowIn e hg hr
  refine ⟨rfl, rfl, ?_⟩
  rw [q2]
  unfold del
  split
  · rfl
  · exact q2
theorem Sim.freeze (S : Sim K Γ O H) {a : Addr} {ds : List PyData} (h : O a = some (.lst (ds.map .d))) : ∃ Γ', Le Γ Γ' ∧ Sim K Γ' (del O a) H ∧ relW K Γ' (.d (.list ds)) (.ref a) := by
  obtain ⟨hz, vs, h1, h2⟩ := S.o _ _ h
  have le : Le Γ ⟨upd Γ.Z a (.lst vs), Γ.G, Γ.F⟩ := Le.zOnly (zP hz)
  have S1 := S.drop a
  have nF : ∀ b o', Γ.F b = some o' → b ≠ a := fun b o' e z => by
    have := (S.fd b o' e).2.1
    rw [z, h] at this; cases this
  refine ⟨⟨upd Γ.Z a (.lst vs), Γ.G, Γ.F⟩, le, ⟨fun b u e => ?_, fun x o e => ?_, S.gd, S.f, S1.gn, S.fg, fun x o e => ⟨(za (nF x o e)).trans (S1.fd x o e).1, (S1.fd x o e).2⟩, S1.u⟩, ⟨a, vs, rfl, SqL.of ze, Reps.same le.z _ _ (zk h2)⟩⟩
  · replace e : upd Γ.Z a (.lst vs) b = some u := e
    by_cases hb : b = a
    · subst hb; rw [ze] at e; cases e; exact h1
    · rw [za hb] at e; exact S.z _ _ e
  · have hx : x ≠ a := fun z => by rw [z, yF] at e; cases e
    obtain ⟨q1, q2⟩ := S1.o _ _ e
    refine ⟨by show upd Γ.Z a _ x = none; rw [za hx]; exact q1, q2.keep le rfl rfl fun rs r hg ⟨rows, hrw⟩ hr => ⟨rfl, ?_, rfl⟩⟩
    subst hrw
    rw [yR hx] at e
    obtain ⟨_, q2, _⟩ := S.rowIn e hg hr
    exact za (fun z => by rw [z, h] at q2; cases q2)
theorem Sim.cell (S : Sim K Γ O H) {a r : Addr} {rows : List (List PyData)} {rs : List Addr} {i j : Nat} {ds : List PyData} {vs : List V} {x : PyData} {v : V} (h0 : O a = some (.grid rows)) (hg : Γ.G a = some rs) (hr : rs[i]? = some r) (hd : rows[i]? = some ds)
    (hv : H r = some (.lst vs)) (rx : Rep K Γ.Z x v) : Sim K Γ (updO O a (.grid (rows.set i (ds.set j x)))) (upd H r (.lst (vs.set j v))) := by
  obtain ⟨hz, rs', hg', h1, hl, hn, hrow⟩ := S.o _ _ h0
  rw [hg] at hg'
  cases hg'
  obtain ⟨z1, z2, vs', z3, z4⟩ := hrow i r ds hr hd
  rw [hv] at z3
  cases z3
  have har : a ≠ r := fun e => by rw [← e, h0] at z2; cases z2
  have nF : ∀ b o', Γ.F b = some o' → b ≠ r := fun b o' e z => (S.fd b o' e).2.2 a rows rs h0 hg (by rw [z]; exact List.mem_of_getElem? hr)
  have nFa : ∀ b o', Γ.F b = some o' → b ≠ a := fun b o' e z => by
    have := (S.fd b o' e).2.1
    rw [z, h0] at this; cases this
  have kg : ∀ {b : Addr} {rb : List (List PyData)}, updO O a (.grid (rows.set i (ds.set j x))) b = some (.grid rb) → ∃ ry, O b = some (.grid ry) := fun {b rb} e1 => by
    by_cases hx : b = a
    · exact ⟨rows, by rw [hx]; exact h0⟩
    · rw [zh hx] at e1; exact ⟨rb, e1⟩
  refine ⟨fun b u e => ?_, fun b oo e => ?_, fun b ss e => ?_, fun b u e => by rw [za (nF _ _ e)]; exact S.f _ _ e, fun b o' e hn' => ?_, S.fg, fun b o' e => ⟨(S.fd b o' e).1, by rw [zh (nFa _ _ e)]; exact (S.fd b o' e).2.1, fun c rc ss e1 g1 => by obtain ⟨ry, e2⟩ := kg e1; exact (S.fd b o' e).2.2 c ry ss e2 g1⟩, fun b c rb rc ss tt q e1 e2 h3 h4 h5 h6 => ?_⟩
  · rw [za (fun z => by rw [z, z1] at e; cases e)]; exact S.z _ _ e
  · by_cases hb : b = a
    · subst hb
      rw [zp] at e
      cases e
      refine ⟨hz, rs, hg, by rw [za har]; exact h1, by rw [List.length_set]; exact hl, hn, fun k q es e1 e2 => ?_⟩
      have hq : O q = none := (S.rowIn h0 hg (List.mem_of_getElem? e1)).2.1
      have hqb : q ≠ b := fun e => by rw [e, h0] at hq; cases hq
      by_cases hk : k = i
      · subst hk
        rw [hr] at e1
        cases e1
        rw [List.getElem?_set_self (List.getElem?_eq_some_iff.mp hd).1] at e2
        cases e2
        refine ⟨z1, by rw [zh hqb]; exact z2, _, ze, ?_⟩
        have hw := zG (Γ := Γ) z4
        have hw2 := Paired.setP hw (show relW K Γ (.d x) v from rx) (i := j)
        rw [← List.map_set] at hw2
        exact zk hw2
      · have hne : q ≠ r := fun e => by
          rw [e] at e1
          obtain ⟨l1, g1⟩ := List.getElem?_eq_some_iff.mp e1
          obtain ⟨l2, g2⟩ := List.getElem?_eq_some_iff.mp hr
          exact hk ((List.getElem_inj hn).mp (g1.trans g2.symm))
        rw [List.getElem?_set_ne (Ne.symm hk)] at e2
        obtain ⟨y1, y2, ws, y3, y4⟩ := hrow k q es e1 e2
        exact ⟨y1, by rw [zh hqb]; exact y2, ws, by rw [za hne]; exact y3, y4⟩
    · rw [zh hb] at e
      obtain ⟨q1, q2⟩ := S.o _ _ e
      have hbr : b ≠ r := fun z => by rw [z, z2] at e; cases e
      refine ⟨q1, q2.keep (Le.refl _) (za hbr) rfl fun ss q hgs ⟨rows', hrw⟩ hq => ?_⟩
      subst hrw
      obtain ⟨w1, w2, ws, w3⟩ := S.rowIn e hgs hq
      have hqr : q ≠ r := fun z => hb (S.u b a rows' rows ss rs q e h0 hgs hg hq (by rw [z]; exact List.mem_of_getElem? hr))
      exact ⟨za hqr, rfl, zh (fun z => by rw [z, h0] at w2; cases w2)⟩
  · obtain ⟨o, h⟩ := S.gd _ _ e
    by_cases hb : b = r
    · exact ⟨_, by rw [hb, ze]⟩
    · exact ⟨o, by rw [za hb]; exact h⟩
  · by_cases hb : b = a
    · subst hb; rw [zp] at e; cases e; exact absurd rfl (hn' _)
    · rw [zh hb] at e; exact S.gn b o' e hn'
  · obtain ⟨r1, f1⟩ := kg e1
    obtain ⟨r2, f2⟩ := kg e2
    exact S.u b c r1 r2 ss tt q f1 f2 h3 h4 h5 h6
theorem Sim.absorb (S : Sim K Γ O H) {a b : Addr} {rows : List (List PyData)} {rs : List Addr} {ds : List PyData} (h0 : O a = some (.grid rows)) (hg : Γ.G a = some rs) (hb : O b = some (.lst (ds.map .d))) :
    H a = some (.lst (rs.map V.ref)) ∧ rs.length = rows.length ∧ ∃ Γ', Le Γ Γ' ∧ Sim K Γ' (updO (del O b) a (.grid (rows ++ [ds]))) (upd H a (.lst (rs.map V.ref ++ [.ref b]))) := by
  obtain ⟨hz, rs', hg', h1, hl, hn, hrow⟩ := S.o _ _ h0
  rw [hg] at hg'
  cases hg'
  obtain ⟨hzb, vb, hb1, hb2⟩ := S.o _ _ hb
  have hab : a ≠ b := fun e => by rw [e, hb] at h0; cases h0
  have hbr : b ∉ rs := fun m => by
    obtain ⟨_, q, _⟩ := S.rowIn h0 hg m
    rw [hb] at q; cases q
  have le : Le Γ ⟨Γ.Z, fun x => if x = a then some (rs ++ [b]) else Γ.G x, Γ.F⟩ := ⟨rfl, Same.refl _, fun x ss h => by
    by_cases hx : x = a
    · subst hx; rw [hg] at h; cases h; exact ⟨[b], by simp⟩
    · exact ⟨[], by simp [hx, h]⟩⟩
  have nFa : ∀ c o', Γ.F c = some o' → c ≠ a := fun c o' e z => by
    have := (S.fd c o' e).2.1
    rw [z, h0] at this; cases this
  have nFb : ∀ c o', Γ.F c = some o' → c ≠ b := fun c o' e z => by
    have := (S.fd c o' e).2.1
    rw [z, hb] at this; cases this
  have k1 : ∀ {x : Addr} {rx : List (List PyData)}, updO (del O b) a (.grid (rows ++ [ds])) x = some (.grid rx) → ∃ ry, O x = some (.grid ry) := fun {x rx} h => by
    by_cases hx : x = a
    · exact ⟨rows, by rw [hx]; exact h0⟩
    · rw [zh hx] at h
      by_cases hxb : x = b
      · rw [hxb, yF] at h; cases h
      · rw [yR hxb] at h; exact ⟨rx, h⟩
  refine ⟨h1, hl, _, le, ⟨fun x u e => ?_, fun x oo e => ?_, fun x ss e => ?_, fun c u e => by rw [za (nFa _ _ e)]; exact S.f _ _ e, fun x o' e hn' => ?_, fun c o' e => by have hne := nFa c o' e; simpa [hne] using S.fg c o' e, fun c o' e => ⟨(S.fd c o' e).1, by rw [zh (nFa _ _ e), yR (nFb _ _ e)]; exact (S.fd c o' e).2.1, fun d rd ss e1 g1 => ?_⟩, fun x y ra rb ss tt r e1 e2 g1 g2 m1 m2 => ?_⟩⟩
  · rw [za (fun z => by rw [z, show ({ Z := Γ.Z, G := fun x => if x = a then some (rs ++ [b]) else Γ.G x, F := Γ.F } : Gh).Z a = none from hz] at e; cases e)]; exact S.z _ _ e
  · by_cases hx : x = a
    · subst hx
      rw [zp] at e
      cases e
      refine ⟨hz, rs ++ [b], by simp, by rw [ze, List.map_append]; rfl, by simp [hl], ?_, fun i r es e1 e2 => ?_⟩
      · rw [List.nodup_append]
        exact ⟨hn, by simp, fun u hu v hv => by simp at hv; subst hv; exact fun z => hbr (by rw [← z]; exact hu)⟩
      · by_cases hi : i < rs.length
        · rw [List.getElem?_append_left hi] at e1
          rw [List.getElem?_append_left (by omega)] at e2
          obtain ⟨y1, y2, ws, y3, y4⟩ := hrow i r es e1 e2
          have hrx : r ≠ x := fun z => by rw [z, h0] at y2; cases y2
          refine ⟨y1, ?_, ws, by rw [za hrx]; exact y3, y4⟩
          rw [zh hrx]
          unfold del
          split
          · rfl
          · exact y2
        · have hi2 : i = rs.length := by
            have := (List.getElem?_eq_some_iff.mp e1).1
            simp at this; omega
          subst hi2
          rw [List.getElem?_append_right (Nat.le_refl _)] at e1
          simp at e1
          subst e1
          rw [hl, List.getElem?_append_right (Nat.le_refl _)] at e2
          simp at e2
          subst e2
          exact ⟨hzb, by rw [zh (Ne.symm hab), yF], vb, by rw [za (Ne.symm hab)]; exact hb1, zk (Γ := Γ) hb2⟩
    · rw [zh hx] at e
      have hxb : x ≠ b := fun z => by rw [z, yF] at e; cases e
      rw [yR hxb] at e
      obtain ⟨q1, q2⟩ := S.o _ _ e
      refine ⟨q1, q2.keep le (za hx) (by simp [hx]) fun ss r hgs ⟨rows', hrw⟩ hq => ?_⟩
      subst hrw
      obtain ⟨w1, w2, ws, w3⟩ := S.rowIn e hgs hq
      have hra : r ≠ a := fun z => by rw [z, h0] at w2; cases w2
      have hrb : r ≠ b := fun z => by rw [z, hb] at w2; cases w2
      exact ⟨za hra, rfl, by rw [zh hra, yR hrb]⟩
  · by_cases hx : x = a
    · exact ⟨_, by rw [hx, ze]⟩
    · obtain ⟨o, h⟩ := S.gd x ss (by simpa [hx] using e)
      exact ⟨o, by rw [za hx]; exact h⟩
  · by_cases hx : x = a
    · subst hx; rw [zp] at e; cases e; exact absurd rfl (hn' _)
    · rw [zh hx] at e
      by_cases hxb : x = b
      · rw [hxb, yF] at e; cases e
      · rw [yR hxb] at e
        simpa [hx] using S.gn x o' e hn'
  · by_cases hd : d = a
    · subst hd
      simp at g1
      subst g1
      intro m
      rcases List.mem_append.mp m with m | m
      · exact (S.fd c o' e).2.2 d rows rs h0 hg m
      · simp at m; exact nFb _ _ e m
    · obtain ⟨ry, e2⟩ := k1 e1
      exact (S.fd c o' e).2.2 d ry ss e2 (by simpa [hd] using g1)
  · obtain ⟨r1, f1⟩ := k1 e1
    obtain ⟨r2, f2⟩ := k1 e2
    have nb : ∀ {z : Addr} {rz : List (List PyData)} {sz : List Addr}, O z = some (.grid rz) → Γ.G z = some sz → b ∉ sz := fun hz1 hz2 m => by
      obtain ⟨_, q, _⟩ := S.rowIn hz1 hz2 m
      rw [hb] at q; cases q
    by_cases hx : x = a
    · by_cases hy : y = a
      · rw [hx, hy]
      · have g2' : Γ.G y = some tt := by simpa [hy] using g2
        rw [hx] at g1 ⊢
        simp at g1
        subst g1
        rcases List.mem_append.mp m1 with m | m
        · exact S.u a y rows r2 rs tt r h0 f2 hg g2' m m2
        · simp at m; subst m; exact absurd m2 (nb f2 g2')
    · have g1' : Γ.G x = some ss := by simpa [hx] using g1
      by_cases hy : y = a
      · rw [hy] at g2 ⊢
        simp at g2
        subst g2
        rcases List.mem_append.mp m2 with m | m
        · exact S.u x a r1 rows ss rs r f1 h0 g1' hg m1 m
        · simp at m; subst m; exact absurd m1 (nb f1 g1')
      · exact S.u x y r1 r2 ss tt r f1 f2 g1' (by simpa [hy] using g2) m1 m2
theorem relW.setF {F : Hp} : ∀ {w : W} {v : V}, relW K Γ w v → relW K ⟨Γ.Z, Γ.G, F⟩ w v
  | .d _, _, h => h
  | .own _, _, h => h
  | .row _ _, _, h => h
theorem relR.setF {F : Hp} {ρ : List (Option W)} {σ : St} (r : relR K Γ ρ σ) : relR K ⟨Γ.Z, Γ.G, F⟩ ρ σ := Paired.mapP r fun a b h => by
  cases a with
  | none => trivial
  | some w => cases b with
    | none => exact h
    | some v => exact relW.setF h
theorem ObjW.setF {F : Hp} {a : Addr} {oo : OO} (h : ObjW K Γ O H a oo) : ObjW K ⟨Γ.Z, Γ.G, F⟩ O H a oo := by
  cases oo with
  | lst ws => obtain ⟨vs, h1, h2⟩ := h; exact ⟨vs, h1, Paired.mapP h2 fun _ _ z => z.setF⟩
  | dK ws => obtain ⟨vs, h1, h2⟩ := h; exact ⟨vs, h1, Paired.mapP h2 fun _ _ z => ⟨z.1, z.2.setF⟩⟩
  | ins C dx ws => obtain ⟨vs, h1, h2⟩ := h; exact ⟨vs, h1, Paired.mapP h2 fun _ _ z => ⟨z.1, z.2.setF⟩⟩
  | grid rows => exact h
theorem Sim.frameNew (S : Sim K Γ O H) {p : Addr} (hp : H p = none) (o : HO) : Sim K ⟨Γ.Z, Γ.G, upd Γ.F p o⟩ O (upd H p o) := by
  obtain ⟨hz, hO, hG⟩ := S.free hp
  have key : ∀ a o', upd Γ.F p o a = some o' → a = p ∨ (a ≠ p ∧ Γ.F a = some o') := fun a o' e => by
    by_cases ha : a = p
    · exact .inl ha
    · rw [za ha] at e; exact .inr ⟨ha, e⟩
  refine ⟨fun b u e => ?_, fun a oo e => ?_, fun a rs e => ?_, fun b u e => ?_, S.gn, fun a o' e => ?_, fun a o' e => ?_, S.u⟩
  · rw [za (fun z => by rw [z, show ({ Z := Γ.Z, G := Γ.G, F := upd Γ.F p o } : Gh).Z p = none from hz] at e; cases e)]; exact S.z _ _ e
  · have hap : a ≠ p := fun z => by rw [z, hO] at e; cases e
    obtain ⟨h1, h2⟩ := S.o _ _ e
    refine ⟨h1, (h2.keep (Le.refl _) (za hap) rfl fun rs r hg ⟨rows, hrw⟩ hr => ?_).setF⟩
    subst hrw
    obtain ⟨_, _, vs, q⟩ := S.rowIn e hg hr
    exact ⟨za (fun z => by rw [z, hp] at q; cases q), rfl, rfl⟩
  · obtain ⟨o', h⟩ := S.gd _ _ e
    exact ⟨o', by rw [za (zF h hp)]; exact h⟩
  · replace e : upd Γ.F p o b = some u := e
    rcases key b u e with rfl | ⟨hb, e'⟩
    · rw [ze] at e ⊢; exact e
    · rw [za hb]; exact S.f _ _ e'
  · rcases key a o' e with rfl | ⟨hb, e'⟩
    · exact hG
    · exact S.fg _ _ e'
  · rcases key a o' e with rfl | ⟨hb, e'⟩
    · refine ⟨hz, hO, fun b rows rs e1 g1 m => ?_⟩
      obtain ⟨_, _, vs, q⟩ := S.rowIn e1 g1 m
      rw [hp] at q; cases q
    · exact S.fd _ _ e'
theorem Sim.framePut (S : Sim K Γ O H) {a : Addr} {o1 : HO} (h : Γ.F a = some o1) (o : HO) : Sim K ⟨Γ.Z, Γ.G, upd Γ.F a o⟩ O (upd H a o) := by
  obtain ⟨hz, hO, hr⟩ := S.fd _ _ h
  have hG := S.fg _ _ h
  have key : ∀ b o', upd Γ.F a o b = some o' → b = a ∨ (b ≠ a ∧ Γ.F b = some o') := fun b o' e => by
    by_cases ha : b = a
    · exact .inl ha
    · rw [za ha] at e; exact .inr ⟨ha, e⟩
  refine ⟨fun b u e => ?_, fun b oo e => ?_, fun b rs e => ?_, fun b u e => ?_, S.gn, fun b o' e => ?_, fun b o' e => ?_, S.u⟩
  · rw [za (fun z => by rw [z, show ({ Z := Γ.Z, G := Γ.G, F := upd Γ.F a o } : Gh).Z a = none from hz] at e; cases e)]; exact S.z _ _ e
  · have hap : b ≠ a := fun z => by rw [z, hO] at e; cases e
    obtain ⟨h1, h2⟩ := S.o _ _ e
    refine ⟨h1, (h2.keep (Le.refl _) (za hap) rfl fun rs r hg ⟨rows, hrw⟩ hm => ?_).setF⟩
    subst hrw
    exact ⟨za (fun z => hr b rows rs e hg (by rw [← z]; exact hm)), rfl, rfl⟩
  · obtain ⟨o', h⟩ := S.gd _ _ e
    by_cases hb : b = a
    · exact ⟨o, by rw [hb, ze]⟩
    · exact ⟨o', by rw [za hb]; exact h⟩
  · replace e : upd Γ.F a o b = some u := e
    rcases key b u e with rfl | ⟨hb, e'⟩
    · rw [ze] at e ⊢; exact e
    · rw [za hb]; exact S.f _ _ e'
  · rcases key b o' e with rfl | ⟨hb, e'⟩
    · exact hG
    · exact S.fg _ _ e'
  · rcases key b o' e with rfl | ⟨hb, e'⟩
    · exact ⟨hz, hO, hr⟩
    · exact S.fd _ _ e'
theorem Sim.unframe (S : Sim K Γ O H) {a : Addr} {ds : List PyData} {vs : List V} {F : Hp} (hF : Γ.F = upd F a (.lst vs)) (h0 : F a = none) (hr : Reps K Γ.Z ds vs) :
    Same Γ.Z (upd Γ.Z a (.lst vs)) ∧ Sim K ⟨upd Γ.Z a (.lst vs), Γ.G, F⟩ O H ∧ relW K ⟨upd Γ.Z a (.lst vs), Γ.G, F⟩ (.d (.list ds)) (.ref a) := by
  have hFa : Γ.F a = some (.lst vs) := by rw [hF, ze]
  obtain ⟨hz, hO, hrow⟩ := S.fd _ _ hFa
  have le : Le Γ ⟨upd Γ.Z a (.lst vs), Γ.G, Γ.F⟩ := Le.zOnly (zP hz)
  have kF : ∀ b o, F b = some o → b ≠ a ∧ Γ.F b = some o := fun b o e => by
    have hb : b ≠ a := fun z => by rw [z, h0] at e; cases e
    exact ⟨hb, by rw [hF, za hb]; exact e⟩
  refine ⟨zP hz, ⟨fun b u e => ?_, fun b oo e => ?_, S.gd, fun b u e => S.f _ _ (kF b u e).2, S.gn, fun b o e => S.fg b o (kF b o e).2, fun b o e => ⟨(za (kF b o e).1).trans (S.fd b o (kF b o e).2).1, (S.fd b o (kF b o e).2).2⟩, S.u⟩, ⟨a, vs, rfl, SqL.of ze, Reps.same (zP hz) _ _ hr⟩⟩
  · replace e : upd Γ.Z a (.lst vs) b = some u := e
    by_cases hb : b = a
    · subst hb; rw [ze] at e; cases e; exact S.f _ _ hFa
    · rw [za hb] at e; exact S.z _ _ e
  · obtain ⟨q1, q2⟩ := S.o _ _ e
    have hb : b ≠ a := fun z => by rw [z, hO] at e; cases e
    refine ⟨(za hb).trans q1, (q2.keep le rfl rfl fun rs r hg ⟨rows, hrw⟩ hm => ⟨rfl, ?_, rfl⟩).setF⟩
    subst hrw
    exact za (fun z => hrow b rows rs e hg (by rw [← z]; exact hm))
end
end L2
namespace L2
open PySem PySem.Spec PyProof.Rows
noncomputable abbrev WS := List (Option W)
noncomputable abbrev WK := W → OM → Prop
noncomputable abbrev TEW := WS → OM → WK → Prop
noncomputable abbrev TTW := WS → OM → (Bool → OM → Prop) → Prop
noncomputable abbrev TAW := WS → OM → (List W → OM → Prop) → Prop
structure EndsW where
  nx : WS → OM → Prop
  rt : WK
  bk : WS → OM → Prop := fun _ _ => False
  ct : WS → OM → Prop := fun _ _ => False
noncomputable abbrev TSW := EndsW → WS → OM → Prop
noncomputable abbrev TGW := W → WS → OM → (WS → OM → Prop) → Prop
noncomputable abbrev TGsW := List PyData → WS → OM → (WS → OM → Prop) → Prop
noncomputable abbrev R2W := W → W → OM → WK → Prop
section
variable (K : PySem.W.Frag)
noncomputable def zj (t : TE) (T : TEW) : Prop := ∀ Γ O H ρ σ, Sim K Γ O H → relR K Γ ρ σ → ∀ (Q : VK) (R : WK), T ρ O R → (∀ Γ' O' H' w v, Le Γ Γ' → Sim K Γ' O' H' → relW K Γ' w v → R w O' → Q v H') → t σ H Q
noncomputable def ye (t : TT) (T : TTW) : Prop := ∀ Γ O H ρ σ, Sim K Γ O H → relR K Γ ρ σ → ∀ (Q : Bool → Hp → Prop) (R : Bool → OM → Prop), T ρ O R → (∀ Γ' O' H' b, Le Γ Γ' → Sim K Γ' O' H' → R b O' → Q b H') → t σ H Q
noncomputable def zY (t : TA) (T : TAW) : Prop := ∀ Γ O H ρ σ, Sim K Γ O H → relR K Γ ρ σ → ∀ (Q : List V → Hp → Prop) (R : List W → OM → Prop), T ρ O R → (∀ Γ' O' H' ws vs, Le Γ Γ' → Sim K Γ' O' H' → relWs K Γ' ws vs → R ws O' → Q vs H') → t σ H Q
structure EndsR (Γ : Gh) (D : Ends) (DW : EndsW) : Prop where
  nx : ∀ Γ' O' H' ρ' σ', Le Γ Γ' → Sim K Γ' O' H' → relR K Γ' ρ' σ' → DW.nx ρ' O' → D.nx σ' H'
  rt : ∀ Γ' O' H' w v, Le Γ Γ' → Sim K Γ' O' H' → relW K Γ' w v → DW.rt w O' → D.rt v H'
  bk : ∀ Γ' O' H' ρ' σ', Le Γ Γ' → Sim K Γ' O' H' → relR K Γ' ρ' σ' → DW.bk ρ' O' → D.bk σ' H'
  ct : ∀ Γ' O' H' ρ' σ', Le Γ Γ' → Sim K Γ' O' H' → relR K Γ' ρ' σ' → DW.ct ρ' O' → D.ct σ' H'
noncomputable def RefS (t : TS) (T : TSW) : Prop := ∀ Γ O H ρ σ D DW, Sim K Γ O H → relR K Γ ρ σ → T DW ρ O → EndsR K Γ D DW → t D σ H
noncomputable def RefG (t : TG) (T : TGW) : Prop := ∀ Γ O H ρ σ w v, Sim K Γ O H → relR K Γ ρ σ → relW K Γ w v → ∀ (Q : St → Hp → Prop) (R : WS → OM → Prop), T w ρ O R → (∀ Γ' O' H' ρ' σ', Le Γ Γ' → Sim K Γ' O' H' → relR K Γ' ρ' σ' → R ρ' O' → Q σ' H') → t v σ H Q
noncomputable def RefGs (t : TGs) (T : TGsW) : Prop := ∀ Γ O H ρ σ ds vs, Sim K Γ O H → relR K Γ ρ σ → Reps K Γ.Z ds vs → ∀ (Q : St → Hp → Prop) (R : WS → OM → Prop), T ds ρ O R → (∀ Γ' O' H' ρ' σ', Le Γ Γ' → Sim K Γ' O' H' → relR K Γ' ρ' σ' → R ρ' O' → Q σ' H') → t vs σ H Q
noncomputable def RefR (r : R2) (rw : R2W) : Prop := ∀ Γ O H x y v u, Sim K Γ O H → relW K Γ x v → relW K Γ y u → ∀ (Q : VK) (R : WK), rw x y O R → (∀ Γ' O' H' w v, Le Γ Γ' → Sim K Γ' O' H' → relW K Γ' w v → R w O' → Q v H') → r v u H Q
noncomputable def RefC (r : List V → Hp → VK → Prop) (rw : List W → OM → WK → Prop) : Prop := ∀ Γ O H xs vs, Sim K Γ O H → relWs K Γ xs vs → ∀ (Q : VK) (R : WK), rw xs O R → (∀ Γ' O' H' w v, Le Γ Γ' → Sim K Γ' O' H' → relW K Γ' w v → R w O' → Q v H') → r vs H Q
noncomputable def RefM (ty : String) (r : V → List V → Hp → VK → Prop) (rw : W → List W → OM → WK → Prop) : Prop := ∀ Γ O H x v xs vs, Sim K Γ O H → relW K Γ x v → relWs K Γ xs vs → ∀ (Q : VK) (R : WK), rw x xs O R → (∀ Γ' O' H' w v, Le Γ Γ' → Sim K Γ' O' H' → relW K Γ' w v → R w O' → Q v H') → r v vs H Q
end
section
variable {K : PySem.W.Frag}
theorem EndsR.mono {Γ Γ' : Gh} {D : Ends} {DW : EndsW} (h : EndsR K Γ D DW) (l : Le Γ Γ') : EndsR K Γ' D DW :=
  ⟨fun _ _ _ _ _ l2 => h.nx _ _ _ _ _ (l.trans l2), fun _ _ _ _ _ l2 => h.rt _ _ _ _ _ (l.trans l2), fun _ _ _ _ _ l2 => h.bk _ _ _ _ _ (l.trans l2), fun _ _ _ _ _ l2 => h.ct _ _ _ _ _ (l.trans l2)⟩
noncomputable def ofV : V → W
  | .int i => .d (.int i)
  | .bl b => .d (.bool b)
  | .str x => .d (.str x)
  | _ => .d .none
noncomputable def scV : V → Bool
  | .int _ => true
  | .bl _ => true
  | .str _ => true
  | .non => true
  | _ => false
theorem uL {Γ : Gh} {v : V} (h : scV v = true) : relW K Γ (ofV v) v := by
  cases v <;> first | rfl | simp [scV] at h
noncomputable def vOf : PyData → V
  | .int i => .int i
  | .bool b => .bl b
  | .str x => .str x
  | .none => .non
  | _ => .ty ""
noncomputable def scD : PyData → Bool
  | .int _ => true
  | .bool _ => true
  | .str _ => true
  | .none => true
  | _ => false
theorem xL {Z : Hp} {x : PyData} {v : V} (h : Rep K Z x v) (s : scD x = true) : v = vOf x := by
  cases x <;> first | exact h | simp [scD] at s
theorem yn {Γ : Gh} {b : Bool} : relW K Γ (.d (.bool b)) (.bl b) := rfl
theorem y7 {Γ : Gh} {b : Str} : relW K Γ (.d (.str b)) (.str b) := rfl
theorem yu {Γ : Gh} {b : Int} : relW K Γ (.d (.int b)) (.int b) := rfl
theorem uM {Γ : Gh} {a : Addr} : relW K Γ (.own a) (.ref a) := rfl
theorem X1 {Γ : Gh} {x : PyData} {v : V} (h : Rep K Γ.Z x v) : relW K Γ (.d x) v := h
theorem y8 {Γ : Gh} : relW K Γ (.d .none) .non := rfl
noncomputable def Jz (i : Nat) : TEW := fun ρ O R => ∃ w, ρ[i]? = some (some w) ∧ R w O
noncomputable def wC (x : PyData) : TEW := fun _ O R => R (.d x) O
theorem VQ {i : Nat} : zj K (uz i) (Jz i) := by
  rintro Γ O H ρ σ S r Q R ⟨w, e, h⟩ k
  obtain ⟨v, e', hv⟩ := r.get e
  exact ⟨v, e', k _ _ _ _ _ (Le.refl _) S hv h⟩
theorem qM {v : V} {x : PyData} (h : vOf x = v := by rfl) (hs : scD x = true := by rfl) : zj K (tC v) (wC x) := by
  rintro Γ O H ρ σ S r Q R hR k
  subst h
  refine k _ _ _ _ _ (Le.refl _) S ?_ hR
  cases x <;> first | rfl | simp [scD] at hs
theorem VR {i : Int} : zj K (tC (.int i)) (wC (.int i)) := qM
theorem VS {i : Str} : zj K (tC (.str i)) (wC (.str i)) := qM
theorem U5 {i : Bool} : zj K (tC (.bl i)) (wC (.bool i)) := qM
theorem VT : zj K (tC .non) (wC .none) := qM
noncomputable def wOp (r : R2W) (Ta Tb : TEW) : TEW := fun ρ O R => Ta ρ O fun x O1 => Tb ρ O1 fun y O2 => r x y O2 R
theorem U6 {r : R2} {rw : R2W} {ta tb : TE} {Ta Tb : TEW} (hr : RefR K r rw) (ha : zj K ta Ta) (hb : zj K tb Tb) : zj K (tOp r ta tb) (wOp rw Ta Tb) := by
  intro Γ O H ρ σ S r0 Q R h k
  refine ha Γ O H ρ σ S r0 _ _ h fun Γ1 O1 H1 x v l1 S1 rx h1 => ?_
  refine hb Γ1 O1 H1 ρ σ S1 (r0.mono l1) _ _ h1 fun Γ2 O2 H2 y u l2 S2 ry h2 => ?_
  exact hr Γ2 O2 H2 x y v u S2 (rx.mono l2) ry _ _ h2 fun Γ3 O3 H3 w z l3 S3 rz h3 => k Γ3 O3 H3 w z ((l1.trans l2).trans l3) S3 rz h3
noncomputable def wUn (r : W → OM → WK → Prop) (Ta : TEW) : TEW := fun ρ O R => Ta ρ O fun x O1 => r x O1 R
noncomputable def wI0 (g : Int → Int → V) : R2W := fun x y O R => ∃ i j, x = .d (.int i) ∧ y = .d (.int j) ∧ R (ofV (g i j)) O
noncomputable def wI (C : Int → Int → Prop) (g : Int → Int → V) : R2W := fun x y O R => ∃ i j, x = .d (.int i) ∧ y = .d (.int j) ∧ C i j ∧ R (ofV (g i j)) O
theorem JA {g : Int → Int → V} (hg : ∀ i j, scV (g i j) = true := by intro _ _; rfl) : RefR K (rI0 g) (wI0 g) := by
  rintro Γ O H x y v u S rx ry Q R ⟨i, j, rfl, rfl, h⟩ k
  exact ⟨i, j, rx, ry, k _ _ _ _ _ (Le.refl _) S (uL (hg i j)) h⟩
theorem r_I {C : Int → Int → Prop} {g : Int → Int → V} (hg : ∀ i j, scV (g i j) = true := by intro _ _; rfl) : RefR K (rI C g) (wI C g) := by
  rintro Γ O H x y v u S rx ry Q R ⟨i, j, rfl, rfl, c, h⟩ k
  exact ⟨i, j, rx, ry, c, k _ _ _ _ _ (Le.refl _) S (uL (hg i j)) h⟩
noncomputable def wEq : R2W := fun x y O R => ∃ a b, x = .d a ∧ y = .d b ∧ scD a = true ∧ scD b = true ∧ x8 (vOf a) (vOf b) = true ∧ R (.d (.bool (decide (vOf a = vOf b)))) O
noncomputable def wNe : R2W := fun x y O R => ∃ a b, x = .d a ∧ y = .d b ∧ scD a = true ∧ scD b = true ∧ x8 (vOf a) (vOf b) = true ∧ R (.d (.bool (!decide (vOf a = vOf b)))) O
theorem JB : RefR K rEq wEq := by
  rintro Γ O H x y v u S rx ry Q R ⟨a, b, rfl, rfl, sa, sb, sc, h⟩ k
  rw [xL rx sa, xL ry sb]
  exact ⟨sc, k _ _ _ _ _ (Le.refl _) S yn h⟩
theorem JC : RefR K rNe wNe := by
  rintro Γ O H x y v u S rx ry Q R ⟨a, b, rfl, rfl, sa, sb, sc, h⟩ k
  rw [xL rx sa, xL ry sb]
  exact ⟨sc, k _ _ _ _ _ (Le.refl _) S yn h⟩
noncomputable def ub : W → Bool
  | .d .none => true
  | _ => false
theorem Y6 {Γ : Gh} {w : W} {v : V} (r : relW K Γ w v) : decide (v = .non) = ub w := by
  cases w with
  | d x =>
    cases x with
    | none => rw [show v = .non from r]; rfl
    | list ds => obtain ⟨a, _, rfl, _⟩ := r; rfl
    | tuple ds => obtain ⟨a, _, rfl, _⟩ := r; rfl
    | dict _ => obtain ⟨_, a, rfl, _⟩ := r; rfl
    | int i => rw [show v = .int i from r]; rfl
    | bool i => rw [show v = .bl i from r]; rfl
    | str i => rw [show v = .str i from r]; rfl
  | own a => rw [show v = .ref a from r]; rfl
  | row a i => obtain ⟨rs, r0, _, _, rfl⟩ := r; rfl
noncomputable def JD : R2W := fun x y O R => y = .d .none ∧ R (.d (.bool (ub x))) O
theorem Q9 : RefR K (fun x y H Q => y = .non ∧ Q (.bl (decide (x = .non))) H) JD := by
  rintro Γ O H x y v u S rx ry Q R ⟨rfl, h⟩ k
  refine ⟨ry, k _ _ _ _ _ (Le.refl _) S ?_ h⟩
  rw [Y6 rx]; rfl
noncomputable def JE (b : Bool) : W → Bool
  | .d (.bool c) => decide (c = b)
  | _ => false
noncomputable def JF : R2W := fun x y O R => ∃ ws i w, y = .d (.int i) ∧ zB O x = some ws ∧ atI ws i = some w ∧ R w O
noncomputable def U7 : R2W := fun x y O R => ∃ z i c, x = .d (.str z) ∧ y = .d (.int i) ∧ z.length ≤ sizeLine ∧ atI z.cps.toList i = some c ∧ R (.d (.str ⟨#[c]⟩)) O
theorem Zc {α β : Type} {F : α → β → Prop} {xs : List α} {ys : List β} {i : Int} {x : α} (r : Paired F xs ys) (e : atI xs i = some x) : ∃ y, atI ys i = some y ∧ F x y := by
  unfold atI at e ⊢
  rw [← Paired.length r]
  cases h : ixN xs.length i with
  | none => rw [h] at e; cases e
  | some j =>
    rw [h] at e
    exact Paired.getP r e
theorem Ja : RefR K (jd K) JF := by
  rintro Γ O H x y v u S rx ry Q R ⟨ws, i, w, rfl, e, h1, h⟩ k
  obtain ⟨a, vs, rfl, q1, q2⟩ := zU S rx e
  obtain ⟨z, h2, h3⟩ := Zc q2 h1
  exact ⟨a, vs, i, z, rfl, ry, q1, h2, k _ _ _ _ _ (Le.refl _) S h3 h⟩
theorem Jb : RefR K UW U7 := by
  rintro Γ O H x y v u S rx ry Q R ⟨z, i, c, rfl, rfl, hl, h1, h⟩ k
  exact ⟨z, i, c, rx, ry, hl, h1, k _ _ _ _ _ (Le.refl _) S y7 h⟩
noncomputable def Y7 (T U : TTW) : TTW := fun ρ O R => T ρ O fun c O1 => if c = true then U ρ O1 R else R false O1
noncomputable def wOr (T U : TTW) : TTW := fun ρ O R => T ρ O fun c O1 => if c = true then R true O1 else U ρ O1 R
noncomputable def Y8 (T : TTW) : TTW := fun ρ O R => T ρ O fun c O1 => R (!c) O1
theorem VU {t u : TT} {T U : TTW} (h : ye K t T) (g : ye K u U) : ye K (YD t u) (Y7 T U) := by
  intro Γ O H ρ σ S r0 Q R hT k
  refine h Γ O H ρ σ S r0 _ _ hT fun Γ1 O1 H1 b l1 S1 h1 => ?_
  cases b with
  | true => rw [if_pos rfl] at h1 ⊢; exact g _ _ _ _ _ S1 (r0.mono l1) _ _ h1 fun Γ2 O2 H2 c l2 S2 h2 => k _ _ _ _ (l1.trans l2) S2 h2
  | false => rw [if_neg (by decide)] at h1 ⊢; exact k _ _ _ _ l1 S1 h1
theorem U8 {t u : TT} {T U : TTW} (h : ye K t T) (g : ye K u U) : ye K (tOr t u) (wOr T U) := by
  intro Γ O H ρ σ S r0 Q R hT k
  refine h Γ O H ρ σ S r0 _ _ hT fun Γ1 O1 H1 b l1 S1 h1 => ?_
  cases b with
  | false => rw [if_neg (by decide)] at h1 ⊢; exact g _ _ _ _ _ S1 (r0.mono l1) _ _ h1 fun Γ2 O2 H2 c l2 S2 h2 => k _ _ _ _ (l1.trans l2) S2 h2
  | true => rw [if_pos rfl] at h1 ⊢; exact k _ _ _ _ l1 S1 h1
theorem VV {t : TT} {T : TTW} (h : ye K t T) : ye K (YE t) (Y8 T) := by
  intro Γ O H ρ σ S r0 Q R hT k
  exact h Γ O H ρ σ S r0 _ _ hT fun Γ1 O1 H1 b l1 S1 h1 => k _ _ _ _ l1 S1 h1
noncomputable def X2 (Ta Tb : TEW) : TEW := fun ρ O R => Ta ρ O fun x O1 => ∃ c, x = .d (.bool c) ∧ if c = true then Tb ρ O1 R else R (.d (.bool false)) O1
noncomputable def X3 (Ta : TEW) : TEW := fun ρ O R => Ta ρ O fun x O1 => ∃ c, x = .d (.bool c) ∧ R (.d (.bool (!c))) O1
theorem Y9 {ta tb : TE} {Ta Tb : TEW} (ha : zj K ta Ta) (hb : zj K tb Tb) : zj K (kN ta tb) (X2 Ta Tb) := by
  intro Γ O H ρ σ S r0 Q R hT k
  refine ha Γ O H ρ σ S r0 _ _ hT fun Γ1 O1 H1 x v l1 S1 rx h1 => ?_
  obtain ⟨c, rfl, h1⟩ := h1
  refine ⟨c, rx, ?_⟩
  cases c with
  | true => rw [if_pos rfl] at h1 ⊢; exact hb _ _ _ _ _ S1 (r0.mono l1) _ _ h1 fun Γ2 O2 H2 y u l2 S2 ry h2 => k _ _ _ _ _ (l1.trans l2) S2 ry h2
  | false => rw [if_neg (by decide)] at h1 ⊢; exact k _ _ _ _ _ l1 S1 yn h1
theorem Xa {ta : TE} {Ta : TEW} (ha : zj K ta Ta) : zj K (kO ta) (X3 Ta) := by
  intro Γ O H ρ σ S r0 Q R hT k
  refine ha Γ O H ρ σ S r0 _ _ hT fun Γ1 O1 H1 x v l1 S1 rx h1 => ?_
  obtain ⟨c, rfl, h1⟩ := h1
  exact ⟨c, rx, k _ _ _ _ _ l1 S1 yn h1⟩
noncomputable def wIf (T : TTW) (Ta Tb : TEW) : TEW := fun ρ O R => T ρ O fun c O1 => if c = true then Ta ρ O1 R else Tb ρ O1 R
theorem U9 {t : TT} {T : TTW} {ta tb : TE} {Ta Tb : TEW} (h : ye K t T) (ha : zj K ta Ta) (hb : zj K tb Tb) : zj K (tIf t ta tb) (wIf T Ta Tb) := by
  intro Γ O H ρ σ S r0 Q R hT k
  refine h Γ O H ρ σ S r0 _ _ hT fun Γ1 O1 H1 b l1 S1 h1 => ?_
  cases b with
  | true => rw [if_pos rfl] at h1 ⊢; exact ha _ _ _ _ _ S1 (r0.mono l1) _ _ h1 fun Γ2 O2 H2 y u l2 S2 ry h2 => k _ _ _ _ _ (l1.trans l2) S2 ry h2
  | false => rw [if_neg (by decide)] at h1 ⊢; exact hb _ _ _ _ _ S1 (r0.mono l1) _ _ h1 fun Γ2 O2 H2 y u l2 S2 ry h2 => k _ _ _ _ _ (l1.trans l2) S2 ry h2
noncomputable def Zd (O : OM) : W → Option Bool
  | .d .none => some false
  | .d (.bool b) => some b
  | .d (.int i) => some (i != 0)
  | .d (.str z) => some (z.length != 0)
  | .d (.list ds) => some (!ds.isEmpty)
  | .d (.tuple ds) => some (!ds.isEmpty)
  | .own a => match O a with
    | some (.lst ws) => some (!ws.isEmpty)
    | some (.dK kvs) => some (!kvs.isEmpty)
    | _ => none
  | _ => none
noncomputable def jq : W → Prop
  | .d (.str z) => z.length ≤ sizeLine
  | _ => True
theorem yj {α β : Type} {F : α → β → Prop} {xs : List α} {ys : List β} (r : Paired F xs ys) : xs.isEmpty = ys.isEmpty := by cases r <;> rfl
theorem Xb {Γ : Gh} {O : OM} {H : Hp} {w : W} {v : V} {b : Bool} (S : Sim K Γ O H) (r : relW K Γ w v) (e : Zd O w = some b) (hs : jq w) : ja K v H b := by
  cases w with
  | d x =>
    cases x with
    | none => rw [show v = .non from r]; cases e; rfl
    | bool i => rw [show v = .bl i from r]; cases e; rfl
    | int i => rw [show v = .int i from r]; cases e; rfl
    | str z =>
      rw [show v = .str z from r]; cases e
      refine ⟨hs, ?_⟩
      show (z.length != 0) = ((z.length : Int) != 0)
      cases hz : z.length with
      | zero => rfl
      | succ n => simp only [bne, Nat.beq_eq_true_eq]; simp; omega
    | list ds =>
      cases e
      obtain ⟨a, xs, rfl, h1, h2⟩ := r
      refine .inl ⟨xs, h1.same S.z, ?_⟩
      rw [← yj (zG h2 : relWs K Γ _ _)]
      simp
    | tuple ds =>
      cases e
      obtain ⟨a, xs, rfl, h1, h2⟩ := r
      refine .inr (.inl ⟨xs, h1.same S.z, ?_⟩)
      rw [← yj (zG h2 : relWs K Γ _ _)]
      simp
    | dict _ => cases e
  | own a =>
    cases (show v = .ref a from r)
    simp only [Zd] at e
    split at e
    · rename_i ws h
      cases e
      obtain ⟨_, vs, h1, h2⟩ := S.o _ _ h
      exact .inl ⟨vs, SqL.of h1, by rw [yj h2]⟩
    · rename_i kvs h
      cases e
      obtain ⟨_, vs, h1, h2⟩ := S.o _ _ h
      exact .inr (.inr ⟨vs, h1, by rw [yj h2]⟩)
    · cases e
  | row a i => cases e
noncomputable def Xc (T : TEW) : TTW := fun ρ O R => T ρ O fun x O1 => ∃ b, Zd O1 x = some b ∧ jq x ∧ R b O1
theorem VW {t : TE} {T : TEW} (h : zj K t T) : ye K (fun σ H Q => t σ H fun x H' => ∃ k, ja K x H' k ∧ Q k H') (Xc T) := by
  intro Γ O H ρ σ S r0 Q R hT k
  refine h Γ O H ρ σ S r0 _ _ hT fun Γ1 O1 H1 x v l1 S1 rx h1 => ?_
  obtain ⟨c, e, hs, h1⟩ := h1
  exact ⟨c, Xb S1 rx e hs, k _ _ _ _ l1 S1 h1⟩
noncomputable def Ze : TAW := fun _ O R => R [] O
noncomputable def qN (Ta : TEW) (Tr : TAW) : TAW := fun ρ O R => Ta ρ O fun x O1 => Tr ρ O1 fun xs O2 => R (x :: xs) O2
theorem VX : zY K uD Ze := fun Γ O H ρ σ S r0 Q R h k => k _ _ _ _ _ (Le.refl _) S .nil h
theorem Xd {ta : TE} {t : TA} {Ta : TEW} {T : TAW} (ha : zj K ta Ta) (hr : zY K t T) : zY K (xS ta t) (qN Ta T) := by
  intro Γ O H ρ σ S r0 Q R h k
  refine ha Γ O H ρ σ S r0 _ _ h fun Γ1 O1 H1 x v l1 S1 rx h1 => ?_
  exact hr Γ1 O1 H1 ρ σ S1 (r0.mono l1) _ _ h1 fun Γ2 O2 H2 ws vs l2 S2 rs h2 => k _ _ _ _ _ (l1.trans l2) S2 (.cons (rx.mono l2) rs) h2
noncomputable def Qa (T : TAW) : TEW := fun ρ O R => T ρ O fun ws O1 => ∃ ds, zQ ws = some ds ∧ ds.length ≤ 1000 ∧ R (.d (.tuple ds)) O1
noncomputable def Qb (T : TAW) : TEW := fun ρ O R => T ρ O fun ws O1 => ∃ ds, zQ ws = some ds ∧ ds.length ≤ 1000 ∧ R (.d (.list ds)) O1
theorem vt {n : Nat} (h : n ≤ 1000) : n ≤ sizeLine := Nat.le_of_lt (yQ h)
theorem ZZ {Γ : Gh} {O : OM} {H : Hp} {ds : List PyData} {vs : List V} {p : Addr} (S : Sim K Γ O H) (hr : Reps K Γ.Z ds vs) (hp : H p = none) : ∃ Γ', Le Γ Γ' ∧ Sim K Γ' O (upd H p (.tup vs)) ∧ relW K Γ' (.d (.tuple ds)) (.ref p) := by
  obtain ⟨l, S'⟩ := S.newD hp (.tup vs)
  exact ⟨_, l, S', p, vs, rfl, SqT.of ze, Reps.same l.z _ _ hr⟩
theorem vd {Γ : Gh} {O : OM} {H : Hp} {ds : List PyData} {vs : List V} {p : Addr} (S : Sim K Γ O H) (hr : Reps K Γ.Z ds vs) (hp : H p = none) : ∃ Γ', Le Γ Γ' ∧ Sim K Γ' O (upd H p (.lst vs)) ∧ relW K Γ' (.d (.list ds)) (.ref p) := by
  obtain ⟨l, S'⟩ := S.newD hp (.lst vs)
  exact ⟨_, l, S', p, vs, rfl, SqL.of ze, Reps.same l.z _ _ hr⟩
theorem VY {Γ : Gh} {O : OM} {H : Hp} {ws : List W} {vs : List V} {p : Addr} (S : Sim K Γ O H) (hr : relWs K Γ ws vs) (hp : H p = none) : O p = none ∧ Sim K Γ (updO O p (.lst ws)) (upd H p (.lst vs)) :=
  ⟨(S.free hp).2.1, S.newO hp (by intro _ h; cases h) ⟨vs, ze, hr⟩⟩
theorem VZ {t : TA} {T : TAW} (h : zY K t T) : zj K (k6 t) (Qa T) := by
  intro Γ O H ρ σ S r0 Q R hT k
  refine h Γ O H ρ σ S r0 _ _ hT fun Γ1 O1 H1 ws vs l1 S1 rs h1 => ?_
  obtain ⟨ds, e, hl, h1⟩ := h1
  rw [z9 e] at rs
  refine ⟨by rw [← Paired.length rs, List.length_map]; exact vt hl, fun p hp => ?_⟩
  obtain ⟨Γ', l, S', r'⟩ := ZZ S1 (zk rs) hp
  exact k _ _ _ _ _ (l1.trans l) S' r' h1
theorem V0 {t : TA} {T : TAW} (h : zY K t T) : zj K (uE t) (Qb T) := by
  intro Γ O H ρ σ S r0 Q R hT k
  refine h Γ O H ρ σ S r0 _ _ hT fun Γ1 O1 H1 ws vs l1 S1 rs h1 => ?_
  obtain ⟨ds, e, hl, h1⟩ := h1
  rw [z9 e] at rs
  refine ⟨by rw [← Paired.length rs, List.length_map]; exact vt hl, fun p hp => ?_⟩
  obtain ⟨Γ', l, S', r'⟩ := vd S1 (zk rs) hp
  exact k _ _ _ _ _ (l1.trans l) S' r' h1
end
end L2
namespace L2
open PySem PySem.Spec PyProof.Rows
noncomputable abbrev SpW := List W → OM → WK → Prop
noncomputable def zf (K : PySem.W.Frag) (s : SpW) : Sp := fun vs H Q _ => ∃ Γ O ws R, Sim K Γ O H ∧ relWs K Γ ws vs ∧ s ws O R ∧ ∀ Γ' O' H' w v, Le Γ Γ' → Sim K Γ' O' H' → relW K Γ' w v → R w O' → Q v H'
noncomputable def Clo (R : WK) : WK := fun w O => R w O ∨ ∃ a ds, w = .own a ∧ O a = some (.lst (ds.map .d)) ∧ R (.d (.list ds)) (del O a)
noncomputable def yf (N : List Str) (ws : List W) : WS := ws.map some ++ List.replicate (N.length - ws.length) none
section
variable {K : PySem.W.Frag}
theorem yA {Γ : Gh} {N : List Str} {ws : List W} {vs : List V} (h : relWs K Γ ws vs) : relR K Γ (yf N ws) (L2.start N vs) := by
  unfold yf L2.start
  rw [Paired.length h]
  refine Paired.appP ?_ ?_
  · induction h with
    | nil => exact .nil
    | cons a b ih => exact .cons a ih
  · generalize N.length - vs.length = n
    induction n with
    | zero => exact .nil
    | succ n ih => exact .cons trivial ih
theorem yv {Γ : Gh} {O : OM} {H : Hp} {w : W} {v : V} {R : WK} {Q : VK} (S : Sim K Γ O H) (r : relW K Γ w v) (h : Clo R w O) (k : ∀ Γ' O' H' w v, Le Γ Γ' → Sim K Γ' O' H' → relW K Γ' w v → R w O' → Q v H') : Q v H := by
  rcases h with h | ⟨a, ds, rfl, e, h⟩
  · exact k _ _ _ _ _ (Le.refl _) S r h
  · obtain ⟨Γ', l, S', r'⟩ := S.freeze e
    cases (show v = .ref a from r)
    exact k _ _ _ _ _ l S' r' h
variable {P : Program} {w : World} {mg : Str → Option Value} {base : Heap}
theorem Fun.okW {x qual : Str} {st : Stmt} {f : Addr} {fd : FuncData} {N ps : List Str} {k : Nat} {s : SpW} (F : Fun K x qual st f fd) (S : FnScope N ps (defScope st)) (len : ∀ ws O R, s ws O R → ws.length = ps.length)
    (hbody : ∀ (cdv : Value) (A : Around) (outer : List Env) (sh : Shared) (H : Hp) (E : XK), Room k (A.deeper (envOfC qual (defScope st) sh.heap.objs.size f cdv)) →
      ∃ t T, PSs (cxOf CX0 P w K mg base N qual (defScope st) f cdv A outer sh H E).nox (defBody st) t ∧ RefS K t T ∧ ∀ ws O R, s ws O R → T { nx := fun _ O' => Clo R (.d .none) O', rt := Clo R } (yf N ws) O) : FnOk P w K mg base CX0 (k + 1) f fd ps (zf K s) := by
  refine F.ok S (fun vs H Q E h => ?_) (fun cdv A outer sh H vs Q E hr h => ?_)
  · obtain ⟨Γ, O, ws, R, S1, r, hs, _⟩ := h
    rw [← Paired.length r]
    exact len ws O R hs
  · obtain ⟨t, T, h1, h2, h3⟩ := hbody cdv A outer sh H E hr
    obtain ⟨Γ, O, ws, R, S1, r, hs, kk⟩ := h
    refine ⟨t, h1, h2 Γ O H _ _ _ _ S1 (yA r) (h3 ws O R hs) ⟨fun Γ' O' H' ρ' σ' l S' r' h' => ?_, fun Γ' O' H' w v l S' r' h' => ?_, fun _ _ _ _ _ _ _ _ h => h.elim, fun _ _ _ _ _ _ _ _ h => h.elim⟩⟩
    · exact yv S' y8 h' fun Γ2 O2 H2 w v l2 => kk _ _ _ _ _ (l.trans l2)
    · exact yv S' r' h' fun Γ2 O2 H2 w v l2 => kk _ _ _ _ _ (l.trans l2)
theorem Fun.okV {x qual : Str} {st : Stmt} {f : Addr} {fd : FuncData} {N ps : List Str} {k : Nat} {s : SpW} {t : TS} {T : TSW} (F : Fun K x qual st f fd) (S : FnScope N ps (defScope st)) (len : ∀ ws O R, s ws O R → ws.length = ps.length)
    (hP : ∀ (cdv : Value) (A : Around) (outer : List Env) (sh : Shared) (H : Hp) (E : XK), Room k (A.deeper (envOfC qual (defScope st) sh.heap.objs.size f cdv)) → PSs (cxOf CX0 P w K mg base N qual (defScope st) f cdv A outer sh H E).nox (defBody st) t)
    (hR : RefS K t T) (hb : ∀ ws O R, s ws O R → T { nx := fun _ O' => Clo R (.d .none) O', rt := Clo R } (yf N ws) O) : FnOk P w K mg base CX0 (k + 1) f fd ps (zf K s) :=
  F.okW S len fun cdv A outer sh H E hr => ⟨t, T, hP cdv A outer sh H E hr, hR, hb⟩
theorem FunD.okW {x qual : Str} {st : Stmt} {ds : List Value} {f : Addr} {fd : FuncData} {N ps : List Str} {k : Nat} {s : SpW} (F : FunD K x qual st ds f fd) (S : FnScope N ps (defScope st)) (len : ∀ ws O R, s ws O R → ws.length = ps.length)
    (hbody : ∀ (cdv : Value) (A : Around) (outer : List Env) (sh : Shared) (H : Hp) (E : XK), Room k (A.deeper (envOfC qual (defScope st) sh.heap.objs.size f cdv)) →
      ∃ t T, PSs (cxOf CX0 P w K mg base N qual (defScope st) f cdv A outer sh H E).nox (defBody st) t ∧ RefS K t T ∧ ∀ ws O R, s ws O R → T { nx := fun _ O' => Clo R (.d .none) O', rt := Clo R } (yf N ws) O) : FnOk P w K mg base CX0 (k + 1) f fd ps (zf K s) := by
  refine F.ok S (fun vs H Q E h => ?_) (fun cdv A outer sh H vs Q E hr h => ?_)
  · obtain ⟨Γ, O, ws, R, S1, r, hs, _⟩ := h
    rw [← Paired.length r]
    exact len ws O R hs
  · obtain ⟨t, T, h1, h2, h3⟩ := hbody cdv A outer sh H E hr
    obtain ⟨Γ, O, ws, R, S1, r, hs, kk⟩ := h
    refine ⟨t, h1, h2 Γ O H _ _ _ _ S1 (yA r) (h3 ws O R hs) ⟨fun Γ' O' H' ρ' σ' l S' r' h' => ?_, fun Γ' O' H' w v l S' r' h' => ?_, fun _ _ _ _ _ _ _ _ h => h.elim, fun _ _ _ _ _ _ _ _ h => h.elim⟩⟩
    · exact yv S' y8 h' fun Γ2 O2 H2 w v l2 => kk _ _ _ _ _ (l.trans l2)
    · exact yv S' r' h' fun Γ2 O2 H2 w v l2 => kk _ _ _ _ _ (l.trans l2)
theorem FunD.okV {x qual : Str} {st : Stmt} {ds : List Value} {f : Addr} {fd : FuncData} {N ps : List Str} {k : Nat} {s : SpW} {t : TS} {T : TSW} (F : FunD K x qual st ds f fd) (S : FnScope N ps (defScope st)) (len : ∀ ws O R, s ws O R → ws.length = ps.length)
    (hP : ∀ (cdv : Value) (A : Around) (outer : List Env) (sh : Shared) (H : Hp) (E : XK), Room k (A.deeper (envOfC qual (defScope st) sh.heap.objs.size f cdv)) → PSs (cxOf CX0 P w K mg base N qual (defScope st) f cdv A outer sh H E).nox (defBody st) t)
    (hR : RefS K t T) (hb : ∀ ws O R, s ws O R → T { nx := fun _ O' => Clo R (.d .none) O', rt := Clo R } (yf N ws) O) : FnOk P w K mg base CX0 (k + 1) f fd ps (zf K s) :=
  F.okW S len fun cdv A outer sh H E hr => ⟨t, T, hP cdv A outer sh H E hr, hR, hb⟩
end
section
variable {K : PySem.W.Frag}
theorem xj {Γ : Gh} : ∀ {vs : List V}, vs.all scV = true → relWs K Γ (vs.map ofV) vs
  | [], _ => .nil
  | v :: vs, h => by
    simp at h
    exact .cons (uL h.1) (xj (by simpa using h.2))
noncomputable def qO (s : SpW) (dvs : List V) (T : TAW) : TEW := fun ρ O R => T ρ O fun ws O1 => s (ws ++ dvs.map ofV) O1 R
theorem Xe {s : SpW} {dvs : List V} {t : TA} {T : TAW} (h : zY K t T) (hd : dvs.all scV = true := by rfl) : zj K (yp (zf K s) dvs E0 t) (qO s dvs T) := by
  intro Γ O H ρ σ S r0 Q R hT k
  refine h Γ O H ρ σ S r0 _ _ hT fun Γ1 O1 H1 ws vs l1 S1 rs h1 => ?_
  exact ⟨Γ1, O1, _, R, S1, Paired.appP rs (xj hd), h1, fun Γ2 O2 H2 w v l2 S2 r2 h2 => k _ _ _ _ _ (l1.trans l2) S2 r2 h2⟩
noncomputable def wCB (r : List W → OM → WK → Prop) (T : TAW) : TEW := fun ρ O R => T ρ O fun ws O1 => r ws O1 R
theorem Qc {r : List V → Hp → VK → Prop} {rw : List W → OM → WK → Prop} {t : TA} {T : TAW} (hr : RefC K r rw) (h : zY K t T) : zj K (tCB r t) (wCB rw T) := by
  intro Γ O H ρ σ S r0 Q R hT k
  refine h Γ O H ρ σ S r0 _ _ hT fun Γ1 O1 H1 ws vs l1 S1 rs h1 => ?_
  exact hr _ _ _ _ _ S1 rs _ _ h1 fun Γ2 O2 H2 w v l2 S2 r2 h2 => k _ _ _ _ _ (l1.trans l2) S2 r2 h2
noncomputable def vH (O : OM) (w : W) : Option (List PyData) := match yz w with
  | some ds => some ds
  | none => (zB O w).bind zQ
theorem V1 {Γ : Gh} {O : OM} {H : Hp} {w : W} {v : V} {ds : List PyData} (S : Sim K Γ O H) (r : relW K Γ w v) (e : vH O w = some ds) : ∃ a vs, v = .ref a ∧ (SqL K H a vs ∨ SqT K H a vs) ∧ Reps K Γ.Z ds vs := by
  unfold vH at e
  split at e
  · rename_i es h
    cases e
    obtain ⟨a, vs, e1, h1, h2⟩ := xK S r h
    exact ⟨a, vs, e1, .inr h1, zk h2⟩
  · cases h : zB O w with
    | none => rw [h] at e; cases e
    | some ws =>
      rw [h] at e
      obtain ⟨a, vs, e1, h1, h2⟩ := zU S r h
      rw [z9 (show zQ ws = some ds from e)] at h2
      exact ⟨a, vs, e1, .inl h1, zk h2⟩
noncomputable def uN (O : OM) (w : W) : Option Nat := match yz w with
  | some ds => some ds.length
  | none => (zB O w).map (·.length)
noncomputable def Xf : List W → OM → WK → Prop := fun xs O R => ∃ w n, xs = [w] ∧ uN O w = some n ∧ R (.d (.int n)) O
theorem Jc : RefC K (fun xs H Q => ∃ p ys, xs = [.ref p] ∧ (SqL K H p ys ∨ SqT K H p ys) ∧ Q (.int ys.length) H) Xf := by
  rintro Γ O H xs vs S rs Q R ⟨w, n, rfl, e, h⟩ k
  cases rs with
  | cons rx t =>
    cases t
    unfold uN at e
    split at e
    · rename_i ds hT
      cases e
      obtain ⟨a, vs, e1, h1, h2⟩ := xK S rx hT
      subst e1
      refine ⟨a, vs, rfl, .inr h1, k _ _ _ _ _ (Le.refl _) S ?_ h⟩
      rw [← Paired.length h2, List.length_map]; rfl
    · cases hL : zB O w with
      | none => rw [hL] at e; cases e
      | some ws =>
        rw [hL] at e
        cases e
        obtain ⟨a, vs, e1, h1, h2⟩ := zU S rx hL
        subst e1
        refine ⟨a, vs, rfl, .inl h1, k _ _ _ _ _ (Le.refl _) S ?_ h⟩
        rw [← Paired.length h2]; rfl
noncomputable def X4 : List W → OM → WK → Prop := fun xs O R => ∃ z, xs = [.d (.str z)] ∧ z.length ≤ sizeLine ∧ R (.d (.int z.length)) O
theorem Qd : RefC K (fun xs H Q => ∃ z, xs = [.str z] ∧ z.length ≤ sizeLine ∧ Q (.int z.length) H) X4 := by
  rintro Γ O H xs vs S rs Q R ⟨z, rfl, e, h⟩ k
  cases rs with
  | cons rx t =>
    cases t
    exact ⟨z, by rw [show _ = V.str z from rx], e, k _ _ _ _ _ (Le.refl _) S yu h⟩
noncomputable def wI2 (g : Int → Int → Int) : List W → OM → WK → Prop := fun xs O R => ∃ i j, xs = [.d (.int i), .d (.int j)] ∧ R (.d (.int (g i j))) O
theorem JG {g : Int → Int → Int} : RefC K (fun xs H Q => ∃ i j, xs = [.int i, .int j] ∧ Q (.int (g i j)) H) (wI2 g) := by
  rintro Γ O H xs vs S rs Q R ⟨i, j, rfl, h⟩ k
  cases rs with
  | cons rx t =>
    cases t with
    | cons ry t =>
      cases t
      exact ⟨i, j, by rw [show _ = V.int i from rx, show _ = V.int j from ry], k _ _ _ _ _ (Le.refl _) S yu h⟩
noncomputable def X5 : List W → OM → WK → Prop := fun xs O R => ∃ i, (xs = [.d (.int i)] ∨ ∃ b : Bool, xs = [.d (.bool b)] ∧ i = if b then 1 else 0) ∧ R (.d (.int i)) O
theorem Qe : RefC K (fun xs H Q => (∃ i, xs = [.int i] ∧ Q (.int i) H) ∨ ∃ k, xs = [.bl k] ∧ Q (.int (if k then 1 else 0)) H) X5 := by
  rintro Γ O H xs vs S rs Q R ⟨i, hx, h⟩ k
  rcases hx with rfl | ⟨b, rfl, rfl⟩
  · cases rs with
    | cons rx t => cases t; exact .inl ⟨i, by rw [show _ = V.int i from rx], k _ _ _ _ _ (Le.refl _) S yu h⟩
  · cases rs with
    | cons rx t => cases t; exact .inr ⟨b, by rw [show _ = V.bl b from rx], k _ _ _ _ _ (Le.refl _) S yu h⟩
noncomputable def qP : TSW := fun D ρ O => D.nx ρ O
noncomputable def yG (T U : TSW) : TSW := fun D ρ O => T { D with nx := U D } ρ O
noncomputable def uc (T : TEW) : TSW := fun D ρ O => T ρ O fun _ O1 => D.nx ρ O1
noncomputable def Zf (T : TEW) : TSW := fun D ρ O => T ρ O D.rt
noncomputable def Jd : TSW := fun D _ O => D.rt (.d .none) O
noncomputable def jr (c : TTW) (T U : TSW) : TSW := fun D ρ O => c ρ O fun b O1 => if b = true then T D ρ O1 else U D ρ O1
theorem Xg : RefS K kP qP := fun Γ O H ρ σ D DW S r h e => e.nx _ _ _ _ _ (Le.refl _) S r h
theorem V2 {t u : TS} {T U : TSW} (h : RefS K t T) (g : RefS K u U) : RefS K (uA t u) (yG T U) := fun Γ O H ρ σ D DW S r hT e =>
  h Γ O H ρ σ { D with nx := u D } { DW with nx := U DW } S r hT ⟨fun Γ' O' H' ρ' σ' l S' r' h' => g _ _ _ _ _ _ _ S' r' h' (e.mono l), e.rt, e.bk, e.ct⟩
theorem Xh {t : TE} {T : TEW} (h : zj K t T) : RefS K (vY t) (uc T) := fun Γ O H ρ σ D DW S r hT e =>
  h _ _ _ _ _ S r _ _ hT fun Γ1 O1 H1 w v l S1 r1 h1 => e.nx _ _ _ _ _ l S1 (r.mono l) h1
theorem V3 {t : TE} {T : TEW} (h : zj K t T) : RefS K (qX t) (Zf T) := fun Γ O H ρ σ D DW S r hT e =>
  h _ _ _ _ _ S r _ _ hT fun Γ1 O1 H1 w v l S1 r1 h1 => e.rt _ _ _ _ _ l S1 r1 h1
theorem V4 {c : TT} {C : TTW} {t u : TS} {T U : TSW} (hc : ye K c C) (h : RefS K t T) (g : RefS K u U) : RefS K (kQ c t u) (jr C T U) := fun Γ O H ρ σ D DW S r hT e => by
  refine hc _ _ _ _ _ S r _ _ hT fun Γ1 O1 H1 b l S1 h1 => ?_
  cases b with
  | true => rw [if_pos rfl] at h1 ⊢; exact h _ _ _ _ _ _ _ S1 (r.mono l) h1 (e.mono l)
  | false => rw [if_neg (by decide)] at h1 ⊢; exact g _ _ _ _ _ _ _ S1 (r.mono l) h1 (e.mono l)
noncomputable def Xi (T : TEW) (G : TGW) : TSW := fun D ρ O => T ρ O fun x O1 => G x ρ O1 D.nx
theorem V5 {t : TE} {T : TEW} {g : TG} {G : TGW} (h : zj K t T) (hg : RefG K g G) : RefS K (qY t g) (Xi T G) := fun Γ O H ρ σ D DW S r hT e =>
  h _ _ _ _ _ S r _ _ hT fun Γ1 O1 H1 w v l S1 r1 h1 => hg _ _ _ _ _ _ _ S1 (r.mono l) r1 _ _ h1 fun Γ2 O2 H2 ρ2 σ2 l2 => e.nx _ _ _ _ _ (l.trans l2)
noncomputable def ud (i : Nat) : TGW := fun w ρ O R => R (ρ.set i (some w)) O
theorem Xj {i : Nat} : RefG K (xR i) (ud i) := fun Γ O H ρ σ w v S r rw Q R h k => k _ _ _ _ _ (Le.refl _) S (Paired.setP r (show vq K Γ (some w) (some v) from rw)) h
noncomputable def Qf : TGsW := fun ds ρ O R => ds = [] ∧ R ρ O
noncomputable def X6 (G : TGW) (U : TGsW) : TGsW := fun ds ρ O R => ∃ e es, ds = e :: es ∧ G (.d e) ρ O fun ρ' O' => U es ρ' O' R
theorem Xk : RefGs K UK Qf := by
  rintro Γ O H ρ σ ds vs S r rs Q R ⟨rfl, h⟩ k
  exact ⟨rs, k _ _ _ _ _ (Le.refl _) S r h⟩
theorem Z0 {t : TG} {u : TGs} {G : TGW} {U : TGsW} (h : RefG K t G) (g : RefGs K u U) : RefGs K (XR t u) (X6 G U) := by
  rintro Γ O H ρ σ ds vs S r rs Q R ⟨e, es, rfl, hh⟩ k
  obtain ⟨x, xs, rfl, h1, h2⟩ := rs
  refine ⟨x, xs, rfl, h _ _ _ _ _ _ _ S r (X1 h1) _ _ hh fun Γ1 O1 H1 ρ1 σ1 l1 S1 r1 q1 => ?_⟩
  exact g _ _ _ _ _ _ _ S1 r1 (Reps.same l1.z _ _ h2) _ _ q1 fun Γ2 O2 H2 ρ2 σ2 l2 => k _ _ _ _ _ (l1.trans l2)
noncomputable def Qg (n : Nat) (U : TGsW) : TGW := fun w ρ O R => ∃ ds, yz w = some ds ∧ ds.length = n ∧ U ds ρ O R
theorem Xl {n : Nat} {t : TGs} {U : TGsW} (h : RefGs K t U) : RefG K (YG K n t) (Qg n U) := by
  rintro Γ O H ρ σ w v S r rw Q R ⟨ds, e, hl, hh⟩ k
  obtain ⟨a, vs, e1, h1, h2⟩ := xK S rw e
  refine ⟨a, vs, e1, h1, by rw [← Paired.length h2, List.length_map]; exact hl, h _ _ _ _ _ _ _ S r (zk h2) _ _ hh k⟩
end
end L2
namespace L2
open PySem PySem.Spec PyProof.Rows
section
variable {K : PySem.W.Frag}
noncomputable def Qh (K : PySem.W.Frag) (Γ : Gh) (J : It) (ws : List W) (keep : OM → Prop) : Prop := ∀ i Γ' O' H', Same Γ.Z Γ'.Z → (∀ a rs, Γ.G a = some rs → ∃ more, Γ'.G a = some (rs ++ more)) → Sim K Γ' O' H' → keep O' →
  (∀ w, ws[i]? = some w → J.go i H' ∧ ∀ x H2, J.yld i H' x H2 → ∃ Γ2, Le Γ' Γ2 ∧ Sim K Γ2 O' H2 ∧ relW K Γ2 w x) ∧ (i = ws.length → J.stop i H')
noncomputable abbrev TIW := WS → OM → (List W → (OM → Prop) → OM → Prop) → Prop
noncomputable def vJ (K : PySem.W.Frag) (t : TI) (T : TIW) : Prop := ∀ Γ O H ρ σ, Sim K Γ O H → relR K Γ ρ σ → ∀ (Q : It → Hp → Prop) (R : List W → (OM → Prop) → OM → Prop), T ρ O R → (∀ Γ' O' H' J ws keep, Le Γ Γ' → Sim K Γ' O' H' → Qh K Γ' J ws keep → R ws keep O' → Q J H') → t σ H Q
theorem relW.up {Γ Γ' : Gh} (hz : Same Γ.Z Γ'.Z) (hg : ∀ a rs, Γ.G a = some rs → ∃ more, Γ'.G a = some (rs ++ more)) {w : W} {v : V} (h : relW K Γ w v) : relW K Γ' w v := by
  have h1 : relW K ⟨Γ'.Z, Γ'.G, Γ.F⟩ w v := relW.mono (Γ := Γ) (Γ' := ⟨Γ'.Z, Γ'.G, Γ.F⟩) ⟨rfl, hz, hg⟩ h
  cases w <;> exact h1
noncomputable def X7 (T : TEW) : TIW := fun ρ O R => T ρ O fun w O1 => ∃ ws, zB O1 w = some ws ∧ R ws (fun O' => zB O' w = some ws) O1
theorem Z1 {t : TE} {T : TEW} (h : zj K t T) : vJ K (kU K t) (X7 T) := by
  intro Γ O H ρ σ S r Q R hT k
  refine h _ _ _ _ _ S r _ _ hT fun Γ1 O1 H1 w v l1 S1 r1 h1 => ?_
  obtain ⟨ws, e, h1⟩ := h1
  obtain ⟨a, vs, rfl, q1, q2⟩ := zU S1 r1 e
  refine ⟨a, rfl, ⟨vs, q1⟩, k _ _ _ _ _ _ l1 S1 (fun i Γ' O' H' hz hg S' e' => ?_) h1⟩
  obtain ⟨a', vs', ea, q1', q2'⟩ := zU S' (r1.up hz hg) e'
  cases ea
  refine ⟨fun w' hw => ?_, fun hi => ⟨vs', q1', by rw [← Paired.length q2', hi]; exact Nat.le_refl _⟩⟩
  obtain ⟨x, hx, rx⟩ := Paired.getP q2' hw
  refine ⟨⟨vs', x, q1', hx⟩, fun y H2 ⟨e2, hy⟩ => ?_⟩
  subst e2
  have := hy vs' q1'
  rw [hx] at this
  cases this
  exact ⟨Γ', Le.refl _, S', rx⟩
noncomputable def Qi (T : TEW) : TIW := fun ρ O R => T ρ O fun w O1 => ∃ ds, yz w = some ds ∧ R (ds.map .d) (fun _ => True) O1
theorem Xm {t : TE} {T : TEW} (h : zj K t T) : vJ K (YH K t) (Qi T) := by
  intro Γ O H ρ σ S r Q R hT k
  refine h _ _ _ _ _ S r _ _ hT fun Γ1 O1 H1 w v l1 S1 r1 h1 => ?_
  obtain ⟨ds, e, h1⟩ := h1
  obtain ⟨a, vs, rfl, q1, q2⟩ := xK S1 r1 e
  refine ⟨a, rfl, ⟨vs, q1⟩, k _ _ _ _ _ _ l1 S1 (fun i Γ' O' H' hz hg S' e' => ?_) h1⟩
  obtain ⟨a', vs', ea, q1', q2'⟩ := xK S' (r1.up hz hg) e
  cases ea
  refine ⟨fun w' hw => ?_, fun hi => ⟨vs', q1', by rw [← Paired.length q2', hi]; exact Nat.le_refl _⟩⟩
  obtain ⟨x, hx, rx⟩ := Paired.getP q2' hw
  refine ⟨⟨vs', x, q1', hx⟩, fun y H2 ⟨e2, hy⟩ => ?_⟩
  subst e2
  have := hy vs' q1'
  rw [hx] at this
  cases this
  exact ⟨Γ', Le.refl _, S', rx⟩
theorem Qj {Γ : Gh} {n : Nat} {f : Nat → Int} {J : It} (hgo : ∀ i H, i < n → J.go i H) (hy : ∀ i H x H', J.yld i H x H' → H' = H ∧ x = .int (f i)) (hs : ∀ i H, n ≤ i → J.stop i H) : Qh K Γ J ((List.range n).map fun i => .d (.int (f i))) fun _ => True := by
  intro i Γ' O' H' hz hg S' _
  refine ⟨fun w hw => ?_, fun hi => hs i _ (by rw [hi]; simp)⟩
  rw [List.getElem?_map] at hw
  cases hr : (List.range n)[i]? with
  | none => rw [hr] at hw; cases hw
  | some j =>
    rw [hr] at hw
    cases hw
    obtain ⟨hi, hj⟩ := List.getElem?_eq_some_iff.mp hr
    simp at hi hj
    subst hj
    refine ⟨hgo i _ hi, fun x H2 y => ?_⟩
    obtain ⟨rfl, rfl⟩ := hy i _ x H2 y
    exact ⟨Γ', Le.refl _, S', yu⟩
noncomputable def X8 (T : TAW) : TIW := fun ρ O R => T ρ O fun ws O1 => ∃ j : Int, ws = [.d (.int j)] ∧ -(2 ^ 62) ≤ j ∧ j < 2 ^ 62 ∧ R ((List.range j.toNat).map fun (i : Nat) => .d (.int i)) (fun _ => True) O1
theorem Z2 {t : TA} {T : TAW} (h : zY K t T) : vJ K (XS t) (X8 T) := by
  intro Γ O H ρ σ S r Q R hT k
  refine h _ _ _ _ _ S r _ _ hT fun Γ1 O1 H1 ws vs l1 S1 r1 h1 => ?_
  obtain ⟨j, rfl, b1, b2, h1⟩ := h1
  cases r1 with
  | cons rx t =>
    cases t
    refine ⟨j, by rw [show _ = V.int j from rx], b1, b2, k _ _ _ _ _ _ l1 S1 (Qj (f := fun i => (i : Int)) (fun i H hi => hi) (fun i H x H' ⟨e1, e2⟩ => ⟨e1, by rw [e2, Int.zero_add]⟩) fun i H hi => hi) h1⟩
noncomputable def yB (ws : List W) (keep : OM → Prop) (G : TGW) (TB : TSW) (D : EndsW) (ρ : WS) (O : OM) : Prop := ∃ Pv : Nat → WS → OM → Prop, Pv 0 ρ O ∧ (∀ i ρ O, Pv i ρ O → keep O) ∧
  (∀ i w ρ O, ws[i]? = some w → Pv i ρ O → G w ρ O fun ρ' O' => TB { D with nx := Pv (i + 1), ct := Pv (i + 1), bk := D.nx } ρ' O') ∧ ∀ ρ O, Pv ws.length ρ O → D.nx ρ O
noncomputable def Qk (Wi : TIW) (G : TGW) (TB : TSW) : TSW := fun D ρ O => Wi ρ O fun ws keep O1 => yB ws keep G TB D ρ O1
theorem V6 {wi : TI} {Wi : TIW} {g : TG} {G : TGW} {tb : TS} {TB : TSW} (hi : vJ K wi Wi) (hg : RefG K g G) (hb : RefS K tb TB) : RefS K (UN wi g tb) (Qk Wi G TB) := by
  intro Γ O H ρ σ D DW S r hT e
  refine hi _ _ _ _ _ S r _ _ hT fun Γ1 O1 H1 J ws keep l1 S1 ok h1 => ?_
  obtain ⟨Pv, p0, pk, ps, pd⟩ := h1
  refine ⟨fun i m σ' H' => i ≤ ws.length ∧ m = ws.length - i ∧ ∃ Γ' O' ρ', Le Γ1 Γ' ∧ Sim K Γ' O' H' ∧ relR K Γ' ρ' σ' ∧ Pv i ρ' O', ⟨_, Nat.zero_le _, rfl, Γ1, O1, ρ, Le.refl _, S1, r.mono l1, p0⟩, ?_⟩
  rintro i m σ' H' ⟨hi, rfl, Γ', O', ρ', l', S', r', p'⟩
  obtain ⟨ok1, ok2⟩ := ok i Γ' O' H' l'.z l'.g S' (pk _ _ _ p')
  by_cases hlt : i < ws.length
  · obtain ⟨go, y⟩ := ok1 _ (List.getElem?_eq_getElem hlt)
    refine .inr ⟨go, fun σ2 H2 => ∃ Γ2 O2 ρ2, Le Γ1 Γ2 ∧ Sim K Γ2 O2 H2 ∧ relR K Γ2 ρ2 σ2 ∧ Pv (i + 1) ρ2 O2, fun σ2 H2 ⟨Γ2, O2, ρ2, l2, S2, r2, p2⟩ => ⟨ws.length - (i + 1), by omega, hlt, rfl, Γ2, O2, ρ2, l2, S2, r2, p2⟩, fun x H2 hy => ?_⟩
    obtain ⟨Γ2, l2, S2, rx⟩ := y x H2 hy
    refine hg _ _ _ _ _ _ _ S2 (r'.mono l2) rx _ _ (ps i _ ρ' O' (List.getElem?_eq_getElem hlt) p') fun Γ3 O3 H3 ρ3 σ3 l3 S3 r3 h3 => ?_
    have l13 := (l'.trans l2).trans l3
    refine hb _ _ _ _ _ _ _ S3 r3 h3 ⟨fun Γ4 O4 H4 ρ4 σ4 l4 S4 r4 h4 => ⟨Γ4, O4, ρ4, l13.trans l4, S4, r4, h4⟩, fun Γ4 O4 H4 w v l4 => e.rt _ _ _ _ _ ((l1.trans l13).trans l4), fun Γ4 O4 H4 ρ4 σ4 l4 => e.nx _ _ _ _ _ ((l1.trans l13).trans l4), fun Γ4 O4 H4 ρ4 σ4 l4 S4 r4 h4 => ⟨Γ4, O4, ρ4, l13.trans l4, S4, r4, h4⟩⟩
  · have hi2 : i = ws.length := by omega
    refine .inl ⟨ok2 hi2, e.nx _ _ _ _ _ (l1.trans l') S' r' (pd _ _ ?_)⟩
    rw [← hi2]; exact p'
noncomputable def zZ (js : List Nat) (ρ : WS) : WS := js.map fun j => (ρ[j]?).join
theorem qt {Γ : Gh} {ρ : WS} {σ : St} (r : relR K Γ ρ σ) (n : Nat) (js : List Nat) : relR K Γ (List.replicate n none ++ zZ js ρ) (xT n js σ) := by
  refine Paired.appP ?_ ?_
  · induction n with
    | zero => exact .nil
    | succ n ih => exact .cons trivial ih
  · unfold zZ
    induction js with
    | nil => exact .nil
    | cons j js ih =>
      refine .cons ?_ ih
      show vq K Γ (ρ[j]?.join) (σ[j]?.join)
      cases h : ρ[j]? with
      | none => exact trivial
      | some o =>
        cases o with
        | none => exact trivial
        | some w =>
          obtain ⟨v, hv, rv⟩ := r.get h
          rw [hv]
          exact rv
noncomputable def Zg (G : TGW) (T : TTW) (E : TEW) (n : Nat) (zv : WS) (w : W) (ρ : WS) (O : OM) (k : Option W → OM → Prop) : Prop :=
  G w ρ O fun ρ1 O1 => (ρ1.length = n + zv.length ∧ ρ1.drop n = zv) ∧ T ρ1 O1 fun ok O2 => if ok = true then E ρ1 O2 fun y O3 => k (some y) O3 else k none O2
noncomputable def wLc (Wi : TIW) (n : Nat) (js : List Nat) (G : TGW) (T : TTW) (E : TEW) : TEW := fun ρ O R => Wi ρ O fun ws keep O1 => keep O1 ∧ ws.length ≤ 1000 ∧ ∃ F : W → Option PyData,
  (∀ w ∈ ws, ∀ us : WS, us.length = n → Zg G T E n (zZ js ρ) w (us ++ zZ js ρ) O1 fun y O2 => O2 = O1 ∧ y = (F w).map .d) ∧ R (.d (.list (ws.filterMap F))) O1
theorem jt {n : Nat} {zv ρ : WS} (h1 : ρ.length = n + zv.length) (h2 : ρ.drop n = zv) : ∃ us : WS, us.length = n ∧ ρ = us ++ zv := ⟨ρ.take n, by rw [List.length_take]; omega, by rw [← h2, List.take_append_drop]⟩
theorem Ql {wi : TI} {Wi : TIW} {n : Nat} {js : List Nat} {g : TG} {G : TGW} {tt : TT} {T : TTW} {te : TE} {E : TEW} (hi : vJ K wi Wi) (hg : RefG K g G) (ht : ye K tt T) (he : zj K te E) : zj K (tLc wi n js g tt te) (wLc Wi n js G T E) := by
  intro Γ O H ρ σ S r Q R hT k
  refine hi _ _ _ _ _ S r _ _ hT fun Γ1 O1 H1 J ws keep l1 S1 ok h1 => ?_
  obtain ⟨hk, hlen, F, hF, hR⟩ := h1
  intro D hD
  have hFD : Γ1.F D = none := S1.f.free hD
  have r1 := qt (r.mono l1) n js
  refine ⟨fun i m σ' H' => i ≤ ws.length ∧ m = ws.length - i ∧ ∃ Γ' ρ' vs, Same Γ1.Z Γ'.Z ∧ (∀ a rs, Γ1.G a = some rs → ∃ more, Γ'.G a = some (rs ++ more)) ∧ Γ'.F = upd Γ1.F D (.lst vs) ∧ Sim K Γ' O1 H' ∧ relR K Γ' ρ' σ' ∧
    ρ'.length = n + (zZ js ρ).length ∧ ρ'.drop n = zZ js ρ ∧ Reps K Γ'.Z ((ws.take i).filterMap F) vs, ⟨_, Nat.zero_le _, rfl, _, _, [], Same.refl _, fun a rs h => ⟨[], by rw [List.append_nil]; exact h⟩, rfl, S1.frameNew hD (.lst []), r1.setF, by simp, by simp, rfl⟩, ?_⟩
  rintro i m σ' H' ⟨hi, rfl, Γ', ρ', vs, z', g', f', S', r', n1, n2, rp⟩
  obtain ⟨ok1, ok2⟩ := ok i Γ' O1 H' z' g' S' hk
  have hvl : vs.length ≤ i := by
    rw [← Reps.length rp]
    exact Nat.le_trans (List.length_filterMap_le _ _) (by rw [List.length_take]; omega)
  by_cases hlt : i < ws.length
  · obtain ⟨go, y⟩ := ok1 _ (List.getElem?_eq_getElem hlt)
    refine .inr ⟨go, fun σ2 H2 => ∃ Γ2 ρ2 vs2, Same Γ1.Z Γ2.Z ∧ (∀ a rs, Γ1.G a = some rs → ∃ more, Γ2.G a = some (rs ++ more)) ∧ Γ2.F = upd Γ1.F D (.lst vs2) ∧ Sim K Γ2 O1 H2 ∧ relR K Γ2 ρ2 σ2 ∧
      ρ2.length = n + (zZ js ρ).length ∧ ρ2.drop n = zZ js ρ ∧ Reps K Γ2.Z ((ws.take (i + 1)).filterMap F) vs2, fun σ2 H2 h => ⟨ws.length - (i + 1), by omega, hlt, rfl, h⟩, fun x H2 hy => ?_⟩
    obtain ⟨Γ2, l2, S2, rx⟩ := y x H2 hy
    obtain ⟨us, hus, rfl⟩ := jt n1 n2
    have et : ws.take (i + 1) = ws.take i ++ [ws[i]] := (List.take_append_getElem hlt).symm
    refine hg _ _ _ _ _ _ _ S2 (r'.mono l2) rx _ _ (hF _ (List.getElem_mem hlt) us hus) fun Γ3 O3 H3 ρ3 σ3 l3 S3 r3 h3 => ?_
    obtain ⟨⟨m1, m2⟩, h3⟩ := h3
    refine ht _ _ _ _ _ S3 r3 _ _ h3 fun Γ4 O4 H4 b l4 S4 h4 => ?_
    have l24 := (l2.trans l3).trans l4
    have up : ∀ Γ5, Le Γ' Γ5 → Same Γ1.Z Γ5.Z ∧ (∀ a rs, Γ1.G a = some rs → ∃ more, Γ5.G a = some (rs ++ more)) := fun Γ5 l => ⟨z'.trans l.z, fun a rs h => by
      obtain ⟨m, e⟩ := g' a rs h
      obtain ⟨m2, e2⟩ := l.g a _ e
      exact ⟨m ++ m2, by rw [← List.append_assoc]; exact e2⟩⟩
    cases b with
    | true =>
      rw [if_pos rfl] at h4 ⊢
      refine he _ _ _ _ _ S4 (r3.mono l4) _ _ h4 fun Γ5 O5 H5 w5 v5 l5 S5 r5 h5 => ?_
      obtain ⟨rfl, h5⟩ := h5
      have l25 := l24.trans l5
      cases hFw : F ws[i] with
      | none => rw [hFw] at h5; cases h5
      | some d =>
        rw [hFw] at h5
        cases h5
        have f5 : Γ5.F = upd Γ1.F D (.lst vs) := by rw [l25.f, f']
        have fD : Γ5.F D = some (.lst vs) := by rw [f5, ze]
        refine ⟨vs, S5.f _ _ fD, yQ (by omega), ?_⟩
        obtain ⟨u1, u2⟩ := up Γ5 l25
        refine ⟨⟨Γ5.Z, Γ5.G, upd Γ5.F D (.lst (vs ++ [v5]))⟩, ρ3, vs ++ [v5], u1, u2, ?_, S5.framePut fD _, ((r3.mono l4).mono l5).setF, m1, m2, ?_⟩
        · show upd Γ5.F D _ = _
          rw [f5, j9]
        · rw [et, List.filterMap_append]
          have : ([ws[i]] : List W).filterMap F = [d] := by simp [hFw]
          rw [this]
          exact Reps.snoc (Reps.same l25.z _ _ rp) r5
    | false =>
      rw [if_neg (by decide)] at h4 ⊢
      obtain ⟨rfl, h4⟩ := h4
      obtain ⟨u1, u2⟩ := up Γ4 l24
      refine ⟨Γ4, ρ3, vs, u1, u2, by rw [l24.f, f'], S4, r3.mono l4, m1, m2, ?_⟩
      cases hFw : F ws[i] with
      | some d => rw [hFw] at h4; cases h4
      | none =>
        rw [et, List.filterMap_append]
        have : ([ws[i]] : List W).filterMap F = [] := by simp [hFw]
        rw [this, List.append_nil]
        exact Reps.same l24.z _ _ rp
  · have hi2 : i = ws.length := by omega
    subst hi2
    refine .inl ⟨ok2 rfl, ?_⟩
    rw [List.take_length] at rp
    obtain ⟨q1, q2, q3⟩ := S'.unframe f' hFD rp
    exact k ⟨upd Γ'.Z D (.lst vs), Γ'.G, Γ1.F⟩ _ _ _ _ (l1.trans ⟨rfl, z'.trans q1, g'⟩) q2 q3 hR
end
end L2
namespace L2
open PySem PySem.Spec PyProof.Rows
section
variable {K : PySem.W.Frag}
noncomputable def Qm {α : Type} (f : Str) (v : α) : List (Str × α) → List (Str × α)
  | [] => [(f, v)]
  | (g, x) :: r => if g = f then (g, v) :: r else (g, x) :: Qm f v r
noncomputable def Zh : W → Option Key
  | .d (.int i) => some (.inl i)
  | .d (.str x) => some (.inr x)
  | _ => none
section
variable {κ α : Type} [DecidableEq κ]
noncomputable def JH (kvs : List (κ × α)) (k : κ) : Option α := (kvs.find? fun kv => decide (kv.1 = k)).map (·.2)
noncomputable def Je (kvs : List (κ × α)) (k : κ) (v : α) : List (κ × α) := if (kvs.any fun kv => decide (kv.1 = k)) = true then kvs.map (fun kv => if kv.1 = k then (kv.1, v) else kv) else kvs ++ [(k, v)]
end
noncomputable def tyW (T : String) (O : OM) (w : W) : Prop := (T = "list" ∧ (zB O w).isSome = true) ∨ (T = "str" ∧ ∃ z, w = .d (.str z)) ∨ (T = "dict" ∧ ∃ a kvs, w = .own a ∧ O a = some (.dK kvs))
theorem Jf {Γ : Gh} {O : OM} {H : Hp} {T : String} {w : W} {v : V} (S : Sim K Γ O H) (r : relW K Γ w v) (h : tyW T O w) : tyV K T v H := by
  rcases h with ⟨rfl, h⟩ | ⟨rfl, z, rfl⟩ | ⟨rfl, a, kvs, rfl, h⟩
  · obtain ⟨ws, e⟩ := Option.isSome_iff_exists.mp h
    obtain ⟨a, vs, rfl, q1, _⟩ := zU S r e
    exact .inl ⟨rfl, vs, q1⟩
  · rw [show v = .str z from r]; rfl
  · cases (show v = .ref a from r)
    obtain ⟨_, vs, q1, _⟩ := S.o _ _ h
    exact .inr (.inr (.inl ⟨rfl, .inl ⟨vs, q1⟩⟩))
noncomputable def wBM (T : String) (rw : W → List W → OM → WK → Prop) (To : TEW) (Ta : TAW) : TEW := fun ρ O R => To ρ O fun x O1 => tyW T O1 x ∧ Ta ρ O1 fun xs O2 => rw x xs O2 R
theorem Qn {T : String} {r : V → List V → Hp → VK → Prop} {rw : W → List W → OM → WK → Prop} {to : TE} {To : TEW} {t : TA} {Ta : TAW} (hr : RefM K T r rw) (ho : zj K to To) (ha : zY K t Ta) : zj K (tBM K T r to t) (wBM T rw To Ta) := by
  intro Γ O H ρ σ S r0 Q R hT k
  refine ho _ _ _ _ _ S r0 _ _ hT fun Γ1 O1 H1 x v l1 S1 rx h1 => ?_
  refine ⟨Jf S1 rx h1.1, ha _ _ _ _ _ S1 (r0.mono l1) _ _ h1.2 fun Γ2 O2 H2 ws vs l2 S2 rs h2 => ?_⟩
  exact hr _ _ _ _ _ _ _ S2 (rx.mono l2) rs _ _ h2 fun Γ3 O3 H3 w u l3 => k _ _ _ _ _ ((l1.trans l2).trans l3)
noncomputable def uO (O : OM) (o w : W) : Option OM := match o with
  | .own a => match O a with
    | some (.lst ws) => if ws.length < 1000 then some (updO O a (.lst (ws ++ [w]))) else none
    | some (.grid rows) => match w with
      | .own b => match O b with
        | some (.lst us) => if rows.length < 1000 then (zQ us).map fun ds => updO (del O b) a (.grid (rows ++ [ds])) else none
        | _ => none
      | _ => none
    | _ => none
  | _ => none
noncomputable def uP : W → List W → OM → WK → Prop := fun x ws O R => ∃ w O1, ws = [w] ∧ uO O x w = some O1 ∧ R (.d .none) O1
theorem Xn {T : String} : RefM K T uG uP := by
  rintro Γ O H x v xs vs S rx rs Q R ⟨w, O1, rfl, e, h⟩ k
  cases rs with
  | cons rw t =>
    cases t
    rename_i u
    cases x with
    | d _ => cases e
    | row _ _ => cases e
    | own a =>
      cases (show v = .ref a from rx)
      simp only [uO] at e
      split at e
      · rename_i ws ho
        split at e
        · rename_i hl
          cases e
          obtain ⟨_, us, q1, q2⟩ := S.o _ _ ho
          refine ⟨a, us, u, rfl, rfl, q1, by rw [← Paired.length q2]; exact yQ (by omega), ?_⟩
          exact k _ _ _ _ _ (Le.refl _) (S.put (oo := .lst _) ho (by intro _ h; cases h) (by intro _ h; cases h) ⟨_, ze, Paired.appP q2 (.cons rw .nil)⟩) y8 h
        · cases e
      · rename_i rows ho
        split at e
        · rename_i b
          cases (show u = .ref b from rw)
          split at e
          · rename_i us hb
            split at e
            · rename_i hl
              cases hd : zQ us with
              | none => rw [hd] at e; cases e
              | some ds =>
                rw [hd] at e
                cases e
                rw [z9 hd] at hb
                obtain ⟨_, rs, hg, _⟩ := S.o _ _ ho
                obtain ⟨q1, q2, Γ', l', S'⟩ := S.absorb ho hg hb
                refine ⟨a, _, .ref b, rfl, rfl, q1, by rw [List.length_map, q2]; exact yQ (by omega), ?_⟩
                exact k _ _ _ _ _ l' S' y8 h
            · cases e
          · cases e
        · cases e
      · cases e
end
end L2
namespace L2
open PySem PySem.Spec PyProof.Rows
section
variable {K : PySem.W.Frag}
noncomputable def X9 (t : TA) : TE := uE t
theorem V7 {X : Cx} {es : List Expr} {t : TA} {pos : Pos} (h : QA X es t) : PE X (.List es pos) (X9 t) := ZN h.pa
noncomputable def Va (T : TAW) : TEW := fun ρ O R => T ρ O fun ws O1 => ws.length ≤ 1000 ∧ ∀ p, O1 p = none → R (.own p) (updO O1 p (.lst ws))
theorem Xo {t : TA} {T : TAW} (h : zY K t T) : zj K (X9 t) (Va T) := by
  intro Γ O H ρ σ S r0 Q R hT k
  refine h Γ O H ρ σ S r0 _ _ hT fun Γ1 O1 H1 ws vs l1 S1 rs h1 => ?_
  refine ⟨by rw [← Paired.length rs]; exact vt h1.1, fun p hp => ?_⟩
  obtain ⟨hO, S'⟩ := VY S1 rs hp
  exact k _ _ _ _ _ l1 S' uM (h1.2 p hO)
noncomputable def wCs (vs : List V) : TAW := fun _ O R => R (vs.map ofV) O
theorem Qo {vs : List V} (h : vs.all scV = true := by rfl) : zY K (tCs vs) (wCs vs) := fun Γ O H ρ σ S r Q R hT k => k _ _ _ _ _ (Le.refl _) S (xj h) hT
noncomputable def tyD : PyData → Option String
  | .none => some "NoneType"
  | .bool _ => some "bool"
  | .int _ => some "int"
  | .str _ => some "str"
  | _ => none
noncomputable def isI : String → String → Option Bool
  | "int", "int" => some true
  | "int", "bool" => some false
  | "int", "str" => some false
  | "bool", "int" => some true
  | "bool", "bool" => some true
  | "bool", "str" => some false
  | "str", "int" => some false
  | "str", "bool" => some false
  | "str", "str" => some true
  | "NoneType", "int" => some false
  | "NoneType", "bool" => some false
  | "NoneType", "str" => some false
  | _, _ => none
noncomputable abbrev TOW := WS → OM → (Option Int → OM → Prop) → Prop
noncomputable def uQ (K : PySem.W.Frag) (t : TO) (T : TOW) : Prop := ∀ Γ O H ρ σ, Sim K Γ O H → relR K Γ ρ σ → ∀ (Q : Option Int → Hp → Prop) (R : Option Int → OM → Prop), T ρ O R → (∀ Γ' O' H' b, Le Γ Γ' → Sim K Γ' O' H' → R b O' → Q b H') → t σ H Q
noncomputable def kn : TOW := fun _ O R => R none O
noncomputable def Vb (T : TEW) : TOW := fun ρ O R => T ρ O fun x O1 => ∃ i, x = .d (.int i) ∧ R (some i) O1
theorem Zi : uQ K ke kn := fun Γ O H ρ σ S r Q R hT k => k _ _ _ _ (Le.refl _) S hT
theorem Xp {t : TE} {T : TEW} (h : zj K t T) : uQ K (XU t) (Vb T) := by
  intro Γ O H ρ σ S r Q R hT k
  refine h _ _ _ _ _ S r _ _ hT fun Γ1 O1 H1 x v l1 S1 rx h1 => ?_
  obtain ⟨i, rfl, h1⟩ := h1
  exact ⟨i, rx, k _ _ _ _ l1 S1 h1⟩
noncomputable def yT {α : Type} (xs : List α) (lo hi : Option Int) : List α := (xs.drop (HT.sIx xs.length 0 lo)).take (HT.sIx xs.length xs.length hi - HT.sIx xs.length 0 lo)
theorem Xq {Z : Hp} {ds : List PyData} {vs : List V} (h : Reps K Z ds vs) (lo hi : Option Int) : Reps K Z (yT ds lo hi) (uF vs lo hi) := by
  have hp : relWs K ⟨Z, fun _ => none, fun _ => none⟩ (ds.map .d) vs := zG h
  have hl := Reps.length h
  have := Paired.takeP (Paired.dropP hp (HT.sIx vs.length 0 lo)) (HT.sIx vs.length vs.length hi - HT.sIx vs.length 0 lo)
  rw [← List.map_drop, ← List.map_take] at this
  unfold yT uF
  rw [hl]
  exact zk this
noncomputable def Qp (Te : TEW) (Tl Th : TOW) : TEW := fun ρ O R => Te ρ O fun x O1 => Tl ρ O1 fun l O2 => Th ρ O2 fun u O3 => ∃ ws ds, zB O3 x = some ws ∧ zQ ws = some ds ∧ R (.d (.list (yT ds l u))) O3
theorem V8 {te : TE} {tl th : TO} {Te : TEW} {Tl Th : TOW} (he : zj K te Te) (hl : uQ K tl Tl) (hh : uQ K th Th) : zj K (tSl (YO K) te tl th) (Qp Te Tl Th) := by
  intro Γ O H ρ σ S r Q R hT k
  refine he _ _ _ _ _ S r _ _ hT fun Γ1 O1 H1 x v l1 S1 rx h1 => ?_
  refine hl _ _ _ _ _ S1 (r.mono l1) _ _ h1 fun Γ2 O2 H2 l l2 S2 h2 => ?_
  refine hh _ _ _ _ _ S2 (r.mono (l1.trans l2)) _ _ h2 fun Γ3 O3 H3 u l3 S3 h3 => ?_
  obtain ⟨ws, ds, e1, e2, h3⟩ := h3
  obtain ⟨a, vs, rfl, q1, q2⟩ := zU S3 ((rx.mono l2).mono l3) e1
  rw [z9 e2] at q2
  refine ⟨a, vs, rfl, q1, fun p hp => ?_⟩
  obtain ⟨Γ', l', S', r'⟩ := vd S3 (Xq (zk q2) l u) hp
  exact k _ _ _ _ _ (((l1.trans l2).trans l3).trans l') S' r' h3
noncomputable def Qq : R2W := fun x y O R => ∃ ws us ds es, zB O x = some ws ∧ zB O y = some us ∧ zQ ws = some ds ∧ zQ us = some es ∧ ds.length + es.length ≤ 1000 ∧ R (.d (.list (ds ++ es))) O
theorem vK {Z : Hp} : ∀ {ds es : List PyData} {vs us : List V}, Reps K Z ds vs → Reps K Z es us → Reps K Z (ds ++ es) (vs ++ us)
  | [], _, _, _, h, g => by rw [show _ = [] from h]; exact g
  | d :: ds, _, _, _, h, g => by
    obtain ⟨x, r, rfl, h1, h2⟩ := h
    exact ⟨x, _, rfl, h1, vK h2 g⟩
theorem Jg : RefR K (YZ K) Qq := by
  rintro Γ O H x y v u S rx ry Q R ⟨ws, us, ds, es, e1, e2, e3, e4, hl, h⟩ k
  obtain ⟨a, vs, rfl, q1, q2⟩ := zU S rx e1
  obtain ⟨b, zs, rfl, p1, p2⟩ := zU S ry e2
  rw [z9 e3] at q2
  rw [z9 e4] at p2
  have q3 := zk q2
  have p3 := zk p2
  refine ⟨a, b, vs, zs, rfl, rfl, q1, p1, by rw [← Reps.length q3, ← Reps.length p3]; exact vt hl, fun p hp => ?_⟩
  obtain ⟨Γ', l', S', r'⟩ := vd S (vK q3 p3) hp
  exact k _ _ _ _ _ l' S' r' h
noncomputable def wIn (neg : Bool) : R2W := fun x y O R => ∃ d ds, x = .d d ∧ vH O y = some ds ∧ scD d = true ∧ ds.all scD = true ∧ R (.d (.bool (if neg then !inV (vOf d) (ds.map vOf) else inV (vOf d) (ds.map vOf)))) O
theorem ko {Z : Hp} : ∀ {ds : List PyData} {vs : List V}, Reps K Z ds vs → ds.all scD = true → vs = ds.map vOf
  | [], _, h, _ => h
  | d :: ds, _, h, a => by
    obtain ⟨x, r, rfl, h1, h2⟩ := h
    simp at a
    rw [xL h1 a.1, ko h2 (by simpa using a.2)]
    rfl
theorem kq {d : PyData} (h : scD d = true) : yX (vOf d) = true := by cases d <;> first | rfl | simp [scD] at h
noncomputable def Qr (K : PySem.W.Frag) (neg : Bool) : R2 := rIn K neg
theorem Vc {X : Cx} (h : X.K = K) : OpR X (compareOp .In) (Qr K false) := by subst h; exact ZP
theorem JI {neg : Bool} : RefR K (Qr K neg) (wIn neg) := by
  rintro Γ O H x y v u S rx ry Q R ⟨d, ds, rfl, e, h1, h2, h⟩ k
  obtain ⟨a, vs, rfl, q1, q2⟩ := V1 S ry e
  have hv := xL rx h1
  have hvs := ko q2 h2
  subst hv hvs
  refine ⟨a, _, rfl, q1, kq h1, ?_, k _ _ _ _ _ (Le.refl _) S yn h⟩
  rw [List.all_map]
  simp only [List.all_eq_true] at h2 ⊢
  exact fun z hz => kq (h2 z hz)
noncomputable def Vd : R2W := fun x y O R => ∃ i j, x = .d (.str i) ∧ y = .d (.str j) ∧ i.length + j.length ≤ sizeLine ∧ R (.d (.str (i ++ j))) O
theorem Qs : RefR K (fun x y H Q => ∃ i j, x = .str i ∧ y = .str j ∧ i.length + j.length ≤ sizeLine ∧ Q (.str (i ++ j)) H) Vd := by
  rintro Γ O H x y v u S rx ry Q R ⟨i, j, rfl, rfl, hl, h⟩ k
  exact ⟨i, j, rx, ry, hl, k _ _ _ _ _ (Le.refl _) S y7 h⟩
end
end L2
namespace L2
open PySem PySem.Spec PyProof.Rows
section
variable {K : PySem.W.Frag}
theorem Sim.unframeO {Γ : Gh} {O : OM} {H : Hp} (S : Sim K Γ O H) {a : Addr} {ds : List PyData} {vs : List V} {F : Hp} (hF : Γ.F = upd F a (.lst vs)) (h0 : F a = none) (hr : Reps K Γ.Z ds vs) :
    O a = none ∧ Sim K ⟨Γ.Z, Γ.G, F⟩ (updO O a (.lst (ds.map .d))) H := by
  have hFa : Γ.F a = some (.lst vs) := by rw [hF, ze]
  obtain ⟨hz, hO, hrow⟩ := S.fd _ _ hFa
  have kF : ∀ b o, F b = some o → b ≠ a ∧ Γ.F b = some o := fun b o e => by
    have hb : b ≠ a := fun z => by rw [z, h0] at e; cases e
    exact ⟨hb, by rw [hF, za hb]; exact e⟩
  have k1 : ∀ {x : Addr} {rx : List (List PyData)}, updO O a (.lst (ds.map .d)) x = some (.grid rx) → O x = some (.grid rx) := fun {x rx} h => by
    by_cases hx : x = a
    · subst hx; rw [zp] at h; cases h
    · rw [zh hx] at h; exact h
  refine ⟨hO, ⟨S.z, fun b oo e => ?_, S.gd, fun b u e => S.f _ _ (kF b u e).2, fun b oo e hn => ?_, fun b o e => S.fg b o (kF b o e).2, fun b o e => ⟨(S.fd b o (kF b o e).2).1, by rw [zh (kF b o e).1]; exact (S.fd b o (kF b o e).2).2.1, fun c rows rs e1 => (S.fd b o (kF b o e).2).2.2 c rows rs (k1 e1)⟩, fun x y ra rb rs ss r e1 e2 => S.u x y ra rb rs ss r (k1 e1) (k1 e2)⟩⟩
  · by_cases hb : b = a
    · subst hb
      rw [zp] at e
      cases e
      exact ⟨hz, vs, S.f _ _ hFa, zG hr⟩
    · rw [zh hb] at e
      obtain ⟨q1, q2⟩ := S.o _ _ e
      refine ⟨q1, (q2.keep (Le.refl _) rfl rfl fun rs r hg ⟨rows, hrw⟩ hm => ⟨rfl, rfl, ?_⟩).setF⟩
      subst hrw
      exact zh (fun z => hrow b rows rs e hg (by rw [← z]; exact hm))
  · by_cases hb : b = a
    · rw [hb]; exact S.fg _ _ hFa
    · rw [zh hb] at e; exact S.gn b oo e hn
noncomputable def Qt (wi : TI) (n : Nat) (js : List Nat) (g : TG) (tt : TT) (te : TE) : TE := tLc wi n js g tt te
section
variable {X : Cx} {N : List Str} {n : Nat} {js : List Nat} {scope : Scope} {cl : List (Str × Addr)} {elt tg iter : Expr} {ifs : List Expr} {pos : Pos} {wi : TI} {g : TG} {tt : TT} {te : TE}
theorem qu {i : Nat} {x : Str} {pos' spos : Pos} (hN : X.N.Nodup) (hx : X.N[i]? = some x) (hk : X.env.scope.names.lookup x = some .local) (L : LcOk X N n js scope cl) (hc : X.calm = true) (hi : PI X tg iter wi)
    (hg : ∀ C s0 H0 fp0, PG (zO X N scope cl C s0 H0 fp0) tg g) (ht : ∀ C s0 H0 fp0, PTs (zO X N scope cl C s0 H0 fp0) ifs tt) (he : ∀ C s0 H0 fp0, PE (zO X N scope cl C s0 H0 fp0) elt te)
    (hsw : swapsWith (.ListComp elt [⟨tg, iter, ifs, 0⟩] scope pos) (some (.Name x pos')) spos.line X.env = pure true := by rfl)
    (hs : ∀ x, foldedSetIterable iter X.env x = pure x := by intro _; rfl) : PS X (.Assign [.Name x pos'] (.ListComp elt [⟨tg, iter, ifs, 0⟩] scope pos) spos) (qY (Qt wi n js g tt te) (xR i)) := YT hN hx hk L hc hi hg ht he hsw hs
end
noncomputable def Qu (Wi : TIW) (n : Nat) (js : List Nat) (G : TGW) (T : TTW) (E : TEW) : TEW := fun ρ O R => Wi ρ O fun ws keep O1 => keep O1 ∧ ws.length ≤ 1000 ∧ ∃ F : W → Option PyData,
  (∀ w ∈ ws, ∀ us : WS, us.length = n → Zg G T E n (zZ js ρ) w (us ++ zZ js ρ) O1 fun y O2 => O2 = O1 ∧ y = (F w).map .d) ∧ ∀ p, O1 p = none → R (.own p) (updO O1 p (.lst ((ws.filterMap F).map .d)))
theorem V9 {wi : TI} {Wi : TIW} {n : Nat} {js : List Nat} {g : TG} {G : TGW} {tt : TT} {T : TTW} {te : TE} {E : TEW} (hi : vJ K wi Wi) (hg : RefG K g G) (ht : ye K tt T) (he : zj K te E) : zj K (Qt wi n js g tt te) (Qu Wi n js G T E) := by
  intro Γ O H ρ σ S r Q R hT k
  refine hi _ _ _ _ _ S r _ _ hT fun Γ1 O1 H1 J ws keep l1 S1 ok h1 => ?_
  obtain ⟨hk, hlen, F, hF, hR⟩ := h1
  intro D hD
  have hFD : Γ1.F D = none := S1.f.free hD
  have hOD := (S1.free hD).2.1
  have r1 := qt (r.mono l1) n js
  refine ⟨fun i m σ' H' => i ≤ ws.length ∧ m = ws.length - i ∧ ∃ Γ' ρ' vs, Same Γ1.Z Γ'.Z ∧ (∀ a rs, Γ1.G a = some rs → ∃ more, Γ'.G a = some (rs ++ more)) ∧ Γ'.F = upd Γ1.F D (.lst vs) ∧ Sim K Γ' O1 H' ∧ relR K Γ' ρ' σ' ∧
    ρ'.length = n + (zZ js ρ).length ∧ ρ'.drop n = zZ js ρ ∧ Reps K Γ'.Z ((ws.take i).filterMap F) vs, ⟨_, Nat.zero_le _, rfl, _, _, [], Same.refl _, fun a rs h => ⟨[], by rw [List.append_nil]; exact h⟩, rfl, S1.frameNew hD (.lst []), r1.setF, by simp, by simp, rfl⟩, ?_⟩
  rintro i m σ' H' ⟨hi, rfl, Γ', ρ', vs, z', g', f', S', r', n1, n2, rp⟩
  obtain ⟨ok1, ok2⟩ := ok i Γ' O1 H' z' g' S' hk
  have hvl : vs.length ≤ i := by
    rw [← Reps.length rp]
    exact Nat.le_trans (List.length_filterMap_le _ _) (by rw [List.length_take]; omega)
  by_cases hlt : i < ws.length
  · obtain ⟨go, y⟩ := ok1 _ (List.getElem?_eq_getElem hlt)
    refine .inr ⟨go, fun σ2 H2 => ∃ Γ2 ρ2 vs2, Same Γ1.Z Γ2.Z ∧ (∀ a rs, Γ1.G a = some rs → ∃ more, Γ2.G a = some (rs ++ more)) ∧ Γ2.F = upd Γ1.F D (.lst vs2) ∧ Sim K Γ2 O1 H2 ∧ relR K Γ2 ρ2 σ2 ∧
      ρ2.length = n + (zZ js ρ).length ∧ ρ2.drop n = zZ js ρ ∧ Reps K Γ2.Z ((ws.take (i + 1)).filterMap F) vs2, fun σ2 H2 h => ⟨ws.length - (i + 1), by omega, hlt, rfl, h⟩, fun x H2 hy => ?_⟩
    obtain ⟨Γ2, l2, S2, rx⟩ := y x H2 hy
    obtain ⟨us, hus, rfl⟩ := jt n1 n2
    have et : ws.take (i + 1) = ws.take i ++ [ws[i]] := (List.take_append_getElem hlt).symm
    refine hg _ _ _ _ _ _ _ S2 (r'.mono l2) rx _ _ (hF _ (List.getElem_mem hlt) us hus) fun Γ3 O3 H3 ρ3 σ3 l3 S3 r3 h3 => ?_
    obtain ⟨⟨m1, m2⟩, h3⟩ := h3
    refine ht _ _ _ _ _ S3 r3 _ _ h3 fun Γ4 O4 H4 b l4 S4 h4 => ?_
    have l24 := (l2.trans l3).trans l4
    have up : ∀ Γ5, Le Γ' Γ5 → Same Γ1.Z Γ5.Z ∧ (∀ a rs, Γ1.G a = some rs → ∃ more, Γ5.G a = some (rs ++ more)) := fun Γ5 l => ⟨z'.trans l.z, fun a rs h => by
      obtain ⟨m, e⟩ := g' a rs h
      obtain ⟨m2, e2⟩ := l.g a _ e
      exact ⟨m ++ m2, by rw [← List.append_assoc]; exact e2⟩⟩
    cases b with
    | true =>
      rw [if_pos rfl] at h4 ⊢
      refine he _ _ _ _ _ S4 (r3.mono l4) _ _ h4 fun Γ5 O5 H5 w5 v5 l5 S5 r5 h5 => ?_
      obtain ⟨rfl, h5⟩ := h5
      have l25 := l24.trans l5
      cases hFw : F ws[i] with
      | none => rw [hFw] at h5; cases h5
      | some d =>
        rw [hFw] at h5
        cases h5
        have f5 : Γ5.F = upd Γ1.F D (.lst vs) := by rw [l25.f, f']
        have fD : Γ5.F D = some (.lst vs) := by rw [f5, ze]
        refine ⟨vs, S5.f _ _ fD, yQ (by omega), ?_⟩
        obtain ⟨u1, u2⟩ := up Γ5 l25
        refine ⟨⟨Γ5.Z, Γ5.G, upd Γ5.F D (.lst (vs ++ [v5]))⟩, ρ3, vs ++ [v5], u1, u2, ?_, S5.framePut fD _, ((r3.mono l4).mono l5).setF, m1, m2, ?_⟩
        · show upd Γ5.F D _ = _
          rw [f5, j9]
        · rw [et, List.filterMap_append]
          have : ([ws[i]] : List W).filterMap F = [d] := by simp [hFw]
          rw [this]
          exact Reps.snoc (Reps.same l25.z _ _ rp) r5
    | false =>
      rw [if_neg (by decide)] at h4 ⊢
      obtain ⟨rfl, h4⟩ := h4
      obtain ⟨u1, u2⟩ := up Γ4 l24
      refine ⟨Γ4, ρ3, vs, u1, u2, by rw [l24.f, f'], S4, r3.mono l4, m1, m2, ?_⟩
      cases hFw : F ws[i] with
      | some d => rw [hFw] at h4; cases h4
      | none =>
        rw [et, List.filterMap_append]
        have : ([ws[i]] : List W).filterMap F = [] := by simp [hFw]
        rw [this, List.append_nil]
        exact Reps.same l24.z _ _ rp
  · have hi2 : i = ws.length := by omega
    subst hi2
    refine .inl ⟨ok2 rfl, ?_⟩
    rw [List.take_length] at rp
    obtain ⟨q1, q2⟩ := S'.unframeO f' hFD rp
    exact k ⟨Γ'.Z, Γ'.G, Γ1.F⟩ _ _ _ _ (l1.trans ⟨rfl, z', g'⟩) q2 uM (hR D hOD)
end
end L2
namespace L2
open PySem PySem.Spec PyProof.Rows
section
variable {X : Cx} {K : PySem.W.Frag}
theorem ju {tg l : Expr} {tl : TE} (hK : X.K = K) (hl : PE X l tl) : PI X tg l (kU K tl) := by subst hK; exact VC hl
theorem Ua {tg l : Expr} {tl : TE} (hK : X.K = K) (hl : PE X l tl) : PI X tg l (YH K tl) := by subst hK; exact UM hl
theorem uR {es : List Expr} {k : Nat} {t : TGs} {n : Nat} {pos : Pos} (hK : X.K = K) (hc : X.calm = true) (h : PGs X es t)
    (hn : (assignEach es X.env).length = n := by rfl) (hst : (assignEach es X.env).findIdx? (·.1) = none := by rfl) : PG X (.Tuple es k pos) (YG K n t) := by subst hK; exact UL hc h hn hst
section
variable {T : String} {name : Str} {id : String} {r : V → List V → Hp → VK → Prop} {o e : Expr} {es : List Expr} {to : TE} {t : TA} {apos cpos : Pos}
theorem zV (hK : X.K = K) (pa : PlainAttrs T) (slot : Slot T name id) (hty : typeOf (.builtin id) = pure (.type "method_descriptor")) (hm : MtR X id r) (ho : PE X o to) (ha : PA X (e :: es) t)
    (hbase : attributeBase o name X.env (eval o X.env) = eval o X.env := by rfl)
    (hfew : ((backTo cpos (starEach (e :: es) X.env)).all (fun x => !x.1) && (backToKw cpos (keywordEach [] X.env)).all (fun x => x.1.isSome) && decide ((e :: es).length + ([] : List Keyword).length + (if ([] : List Keyword).isEmpty then 0 else 1) < 30)) = true := by rfl)
    (hline : (apos.endLine == cpos.line) = true := by rfl) (hs : starEach (e :: es) X.env = (false, eval e X.env) :: starEach es X.env := by rfl) (hplain : (backTo cpos (starEach es X.env)).any (·.1) = false := by rfl) :
    PE X (.Call (.Attribute o name apos) (e :: es) [] cpos) (tBM K T r to t) := by subst hK; exact k7 pa slot hty hm ho ha hbase hfew hline hs hplain
end
noncomputable def Ve (K : PySem.W.Frag) : List V → Hp → VK → Prop := fun xs H Q => ∃ p ys, xs = [.ref p] ∧ (SqL K H p ys ∨ SqT K H p ys) ∧ Q (.int ys.length) H
theorem ve (hK : X.K = K) : zN X (.builtin "len") (Ve K) := by subst hK; exact jg
theorem Qv : RefC K (Ve K) Xf := Jc
noncomputable def Jh (K : PySem.W.Frag) : List V → Hp → VK → Prop := fun xs H Q => ∃ p ys, xs = [.ref p] ∧ ((SqL K H p ys ∧ ∀ l, H l = none → Q (.ref l) (upd H l (.tup ys))) ∨ (SqT K H p ys ∧ Q (.ref p) H))
theorem jv (hK : X.K = K) : zN X (.type "tuple") (Jh K) := by subst hK; exact qG
noncomputable def Vf (K : PySem.W.Frag) (ta : TE) : TT := fun σ H Q => ta σ H fun x H' => ∃ k, ja K x H' k ∧ Q k H'
theorem qw {a : Expr} {ta : TE} (hK : X.K = K) (ha : PE X a ta) (he : ∀ whole, isTrue a X.env whole = (do let v ← whole; standAt a.pos; holding [v] (truthy v))) : PT X a (Vf K ta) := by
  subst hK; exact YN ha he
theorem Xr {t : TE} {T : TEW} (h : zj K t T) : ye K (Vf K t) (Xc T) := VW h
theorem ue (hK : X.K = K) (hu : X.A.units + 64 < cLine) : OpR X (compareOp .Eq) (YU K) := by subst hK; exact U2 hu
theorem Z3 (hK : X.K = K) (hu : X.A.units + 64 < cLine) : OpR X (compareOp .NotEq) (YV K) := by subst hK; exact U3 hu
end
section
variable {K : PySem.W.Frag}
end
end L2
namespace L2
open PySem PySem.Spec PyProof.Rows
section
variable {K : PySem.W.Frag}
noncomputable def wCR (a : Addr) : TEW := fun _ O R => R (.own a) O
theorem Qw {a : Addr} : zj K (tC (.ref a)) (wCR a) := fun Γ O H ρ σ S r Q R h k => k _ _ _ _ _ (Le.refl _) S uM h
theorem Z4 {s : SpW} {t : TA} {T : TAW} (h : zY K t T) : zj K (yp (zf K s) [] E0 t) (qO s [] T) := Xe h
theorem yg {T U : TSW} {D : EndsW} {ρ : WS} {O : OM} (J : WS → OM → Prop) (ht : ∀ R : WS → OM → Prop, (∀ ρ' O', J ρ' O' → R ρ' O') → T { D with nx := R } ρ O) (hu : ∀ ρ' O', J ρ' O' → U D ρ' O') : yG T U D ρ O := ht (U D) hu
theorem yB.by {ws : List W} {keep : OM → Prop} {G : TGW} {TB : TSW} {D : EndsW} {ρ : WS} {O : OM} (Pv : Nat → WS → OM → Prop) (h0 : Pv 0 ρ O) (hk : ∀ i ρ O, Pv i ρ O → keep O)
    (hs : ∀ i w ρ O, ws[i]? = some w → Pv i ρ O → ∀ R : WS → OM → Prop, (∀ ρ' O', Pv (i + 1) ρ' O' → R ρ' O') → G w ρ O fun ρ' O' => TB { D with nx := R, ct := R, bk := D.nx } ρ' O') (hd : ∀ ρ O, Pv ws.length ρ O → D.nx ρ O) : yB ws keep G TB D ρ O :=
  ⟨Pv, h0, hk, fun i w ρ O e p => hs i w ρ O e p _ fun _ _ z => z, hd⟩
theorem yB.rng {n : Nat} {f : Nat → Int} {G : TGW} {TB : TSW} {D : EndsW} {ρ : WS} {O : OM} (Pv : Nat → WS → OM → Prop) (h0 : Pv 0 ρ O)
    (hs : ∀ i ρ O, i < n → Pv i ρ O → ∀ R : WS → OM → Prop, (∀ ρ' O', Pv (i + 1) ρ' O' → R ρ' O') → G (.d (.int (f i))) ρ O fun ρ' O' => TB { D with nx := R, ct := R, bk := D.nx } ρ' O') (hd : ∀ ρ O, Pv n ρ O → D.nx ρ O) : yB ((List.range n).map fun i => .d (.int (f i))) (fun _ => True) G TB D ρ O :=
  yB.by Pv h0 (fun _ _ _ _ => trivial) (fun i w ρ O e p R hR => by
    rw [List.getElem?_map] at e
    cases hr : (List.range n)[i]? with
    | none => rw [hr] at e; cases e
    | some j =>
      rw [hr] at e
      cases e
      obtain ⟨hi, hj⟩ := List.getElem?_eq_some_iff.mp hr
      simp at hi hj
      subst hj
      exact hs i ρ O hi p R hR) (fun ρ O p => hd ρ O (by simpa using p))
end
noncomputable abbrev PF := Nat → Nat → Cel
noncomputable def genG (h w : Nat) (f : PF) : List (List PyData) := (List.range h).map fun i => (List.range w).map fun j => vB (f i j)
noncomputable def setF (f : PF) (i j : Nat) (c : Cel) : PF := fun a b => if a = i ∧ b = j then c else f a b
end L2
namespace L2
open PySem PySem.Spec PyProof.Rows
theorem ya {X : Cx} : OpR X (binaryOp .Mult) (rI IntMulOk fun i j => .int (i * j)) := opI fun _ _ _ _ _ _ _ hc q => mul_int q hc
theorem mulL {a b : Int} (h1 : -1000000000000 ≤ a) (h2 : a ≤ 1000000000000) : IntMulOk a b := (VN h1 h2).ok
theorem mulR {a b : Int} (h1 : -1000000000000 ≤ b) (h2 : b ≤ 1000000000000) : IntMulOk a b := (YW h1 h2).ok
noncomputable def Bt (m : Nat) (c : Int) : Prop := c.natAbs < 2 ^ m
theorem Bt.bits {m : Nat} {c : Int} (h : Bt m c) : Builtin.Int.intBits c ≤ m := by
  unfold Builtin.Int.intBits
  by_cases hc : c = 0
  · simp [hc]
  · have hn : c.natAbs ≠ 0 := by omega
    simp only [beq_iff_eq, hc, if_false]
    exact (Nat.log2_lt hn).mpr h
theorem Bt.mono {m n : Nat} {a : Int} (ha : Bt m a) (h : m ≤ n) : Bt n a := Nat.lt_of_lt_of_le ha (Nat.pow_le_pow_right (by decide) h)
theorem Bt.small {a : Int} (h1 : -1000000000000 ≤ a) (h2 : a ≤ 1000000000000) : Bt 40 a := by
  unfold Bt
  have : (2 : Nat) ^ 40 = 1099511627776 := by decide
  omega
end L2
namespace L2
open PySem PySem.Spec PyProof.Rows
section
variable {K : PySem.W.Frag}
theorem RefR.weak {r : R2} {rw rw' : R2W} (h : RefR K r rw) (imp : ∀ x y O R, rw' x y O R → rw x y O R) : RefR K r rw' := fun Γ O H x y v u S rx ry Q R hT k => h Γ O H x y v u S rx ry Q R (imp _ _ _ _ hT) k
theorem RefC.weak {r : List V → Hp → VK → Prop} {rw rw' : List W → OM → WK → Prop} (h : RefC K r rw) (imp : ∀ x O R, rw' x O R → rw x O R) : RefC K r rw' := fun Γ O H xs vs S rs Q R hT k => h Γ O H xs vs S rs Q R (imp _ _ _ hT) k
noncomputable def vf (i : Nat) : TEW := fun ρ O R => match ρ[i]? with
  | some (some w) => R w O
  | _ => False
theorem Qx {i : Nat} : zj K (uz i) (vf i) := fun Γ O H ρ σ S r Q R hT k => VQ Γ O H ρ σ S r Q R (by
  unfold vf at hT
  split at hT
  · rename_i w e; exact ⟨w, e, hT⟩
  · exact hT.elim) k
noncomputable def vI0 (g : Int → Int → V) : R2W := fun x y O R => match x, y with
  | .d (.int i), .d (.int j) => R (ofV (g i j)) O
  | _, _ => False
noncomputable def vI (C : Int → Int → Prop) (g : Int → Int → V) : R2W := fun x y O R => match x, y with
  | .d (.int i), .d (.int j) => C i j ∧ R (ofV (g i j)) O
  | _, _ => False
theorem Ji {g : Int → Int → V} (hg : ∀ i j, scV (g i j) = true := by intro _ _; rfl) : RefR K (rI0 g) (vI0 g) := (JA hg).weak fun x y O R h => by
  unfold vI0 at h
  split at h
  · exact ⟨_, _, rfl, rfl, h⟩
  · exact h.elim
theorem JJ {C : Int → Int → Prop} {g : Int → Int → V} (hg : ∀ i j, scV (g i j) = true := by intro _ _; rfl) : RefR K (rI C g) (vI C g) := (r_I hg).weak fun x y O R h => by
  unfold vI at h
  split at h
  · exact ⟨_, _, rfl, rfl, h⟩
  · exact h.elim
noncomputable def vU (g : Int → V) : W → OM → WK → Prop := fun x O R => match x with
  | .d (.int i) => R (ofV (g i)) O
  | _ => False
noncomputable def vEq : R2W := fun x y O R => match x, y with
  | .d (.int i), .d (.int j) => R (.d (.bool (decide (i = j)))) O
  | .d a, .d b => scD a = true ∧ scD b = true ∧ x8 (vOf a) (vOf b) = true ∧ R (.d (.bool (decide (vOf a = vOf b)))) O
  | _, _ => False
noncomputable def vNe : R2W := fun x y O R => match x, y with
  | .d (.int i), .d (.int j) => R (.d (.bool (!decide (i = j)))) O
  | .d a, .d b => scD a = true ∧ scD b = true ∧ x8 (vOf a) (vOf b) = true ∧ R (.d (.bool (!decide (vOf a = vOf b)))) O
  | _, _ => False
theorem Jj : RefR K rEq vEq := JB.weak fun x y O R h => by
  unfold vEq at h
  split at h
  · rename_i i j
    have e : decide (vOf (.int i) = vOf (.int j)) = decide (i = j) := by simp [vOf]
    exact ⟨.int i, .int j, rfl, rfl, rfl, rfl, rfl, by rw [e]; exact h⟩
  · exact ⟨_, _, rfl, rfl, h⟩
  · exact h.elim
theorem Jk : RefR K rNe vNe := JC.weak fun x y O R h => by
  unfold vNe at h
  split at h
  · rename_i i j
    have e : decide (vOf (.int i) = vOf (.int j)) = decide (i = j) := by simp [vOf]
    exact ⟨.int i, .int j, rfl, rfl, rfl, rfl, rfl, by rw [e]; exact h⟩
  · exact ⟨_, _, rfl, rfl, h⟩
  · exact h.elim
noncomputable def Zj : R2W := fun x y O R => match y with
  | .d .none => R (.d (.bool (ub x))) O
  | _ => False
noncomputable def Vg : R2W := fun x y O R => match y with
  | .d .none => R (.d (.bool (!ub x))) O
  | _ => False
theorem Qy : RefR K (fun x y H Q => y = .non ∧ Q (.bl (decide (x = .non))) H) Zj := Q9.weak fun x y O R h => by
  unfold Zj at h
  split at h
  · exact ⟨rfl, h⟩
  · exact h.elim
noncomputable def Xs : R2W := fun x y O R => match y with
  | .d (.int i) => ∃ ws, zB O x = some ws ∧ ∃ w, atI ws i = some w ∧ R w O
  | _ => False
theorem Qz : RefR K (jd K) Xs := Ja.weak fun x y O R h => by
  unfold Xs at h
  split at h
  · obtain ⟨ws, e, w, e2, h⟩ := h
    exact ⟨ws, _, w, rfl, e, e2, h⟩
  · exact h.elim
noncomputable def uf (T : TEW) : TTW := fun ρ O R => T ρ O fun x O1 => match x with
  | .d (.bool k) => R k O1
  | _ => False
theorem kt {t : TE} {T : TEW} (h : zj K t T) : ye K (kY t) (uf T) := by
  intro Γ O H ρ σ S r0 Q R hT k
  refine h Γ O H ρ σ S r0 _ _ hT fun Γ1 O1 H1 x v l1 S1 rx h1 => ?_
  split at h1
  · exact ⟨_, rx, k _ _ _ _ l1 S1 h1⟩
  · exact h1.elim
theorem Jl {t : TE} {T : TEW} (h : zj K t T) : ye K (tB t) (uf T) := kt h
noncomputable def Z5 (r r' : R2W) (Ta Tb Tc : TEW) : TEW := fun ρ O R => Ta ρ O fun x O1 => Tb ρ O1 fun y O2 => r x y O2 fun z O3 => match z with
  | .d (.bool k) => if k = true then Tc ρ O3 fun w O4 => r' y w O4 R else R (.d (.bool false)) O3
  | _ => False
noncomputable def QB (K : PySem.W.Frag) (Ta : TEW) (f : Str) : TEW := fun ρ O R => Ta ρ O fun x O1 => match x with
  | .own a => ∃ C dx fs, O1 a = some (.ins C dx fs) ∧ Cls K C ∧ ZM K C f ∧ ∃ w, fs.lookup f = some w ∧ R w O1
  | _ => False
noncomputable def Vh (K : PySem.W.Frag) (Ta Tv : TEW) (f : Str) : TSW := fun D ρ O => Tv ρ O fun y O1 => Ta ρ O1 fun x O2 => match x with
  | .own a => ∃ C dx fs, O2 a = some (.ins C dx fs) ∧ Cls K C ∧ ZM K C f ∧ fs.length < 1000 ∧ D.nx ρ (updO O2 a (.ins C dx (Qm f y fs)))
  | _ => False
noncomputable def Z6 (Td Ty : TEW) : TEW := fun ρ O R => Td ρ O fun x O1 => Ty ρ O1 fun y O2 => match x, Zh y with
  | .own a, some k => ∃ kvs, O2 a = some (.dK kvs) ∧ ∃ w, JH kvs k = some w ∧ R w O2
  | _, _ => False
noncomputable def Z7 (Td Ty Tv : TEW) : TSW := fun D ρ O => Tv ρ O fun w O1 => Td ρ O1 fun x O2 => Ty ρ O2 fun y O3 => match x, Zh y with
  | .own a, some k => ∃ kvs, O3 a = some (.dK kvs) ∧ kvs.length < 1000 ∧ D.nx ρ (updO O3 a (.dK (Je kvs k w)))
  | _, _ => False
noncomputable def vI2 (g : Int → Int → Int) : List W → OM → WK → Prop := fun xs O R => match xs with
  | [.d (.int i), .d (.int j)] => R (.d (.int (g i j))) O
  | _ => False
theorem Jm {g : Int → Int → Int} : RefC K (fun xs H Q => ∃ i j, xs = [.int i, .int j] ∧ Q (.int (g i j)) H) (vI2 g) := JG.weak fun x O R h => by
  unfold vI2 at h
  split at h
  · exact ⟨_, _, rfl, h⟩
  · exact h.elim
end
end L2
namespace L2
open PySem PySem.Spec PyProof.Rows
section
variable {X : Cx}
theorem vg : ∀ {zs : List Str} {us : List Value}, Vals (zs.map V.str) us → StrsAre us zs
  | [], _, .nil => .nil
  | z :: zs, _, .cons r t => by
    obtain ⟨k, rfl⟩ := r
    exact .cons z k (vg t)
noncomputable def Zk (K : PySem.W.Frag) : V → List V → Hp → VK → Prop := fun x xs H Q => ∃ sep a zs, x = .str sep ∧ xs = [.ref a] ∧ SqL K H a (zs.map .str) ∧ sep.length ≤ 16 ∧ (zs.map (·.length)).sum + zs.length ≤ 1048576 ∧ Q (.str (Txt.join sep zs)) H
theorem Ub : MtR X "str.join" (Zk X.K) := by
  intro pins s σ H x xs v us Q I rx r h
  obtain ⟨sep, a, zs, rfl, rfl, hq, hs, hw, q⟩ := h
  obtain ⟨u, rfl, ru⟩ := r.one
  cases ru
  obtain ⟨t, rfl⟩ := rx
  obtain ⟨its, rv, p, hz⟩ := I.list hq
  exact join_listW p.isList (vg rv) hs hw fun t' k => ⟨.str _, H, I.tok _, ⟨_, rfl⟩, q⟩
theorem Z8 : zN X (.type "int") (fun xs H Q => ∃ z n, xs = [.str z] ∧ intText? z = some n ∧ z.length ≤ 640 ∧ Q (.int n) H) := by
  intro pins s σ H xs us Q I r h
  obtain ⟨z, n, rfl, hn, hl, q⟩ := h
  obtain ⟨u, rfl, t, rfl⟩ := yW r
  exact PySem.W.KIN.call_text hn hl ⟨.int n, H, I.tok _, ⟨_, rfl⟩, q⟩
noncomputable def Z9 : V → List V → Hp → VK → Prop := fun x xs H Q => ∃ z y, x = .str z ∧ xs = [.str y] ∧ (y.length == 0) = false ∧ z.length ≤ 100000 ∧ ∀ p, H p = none → Q (.ref p) (upd H p (.lst ((Txt.split z y).map .str)))
theorem qy : ∀ {l : List (Str × Tok)} {zs : List Str}, l.map (·.1) = zs → Vals (zs.map V.str) (strValues l)
  | [], _, rfl => .nil
  | (z, t) :: l, _, rfl => .cons ⟨t, rfl⟩ (qy rfl)
theorem vL : MtR X "str.split" Z9 := by
  intro pins s σ H x xs v us Q I rx r h
  obtain ⟨z, y, rfl, rfl, hy, hz, q⟩ := h
  obtain ⟨u, rfl, t, rfl⟩ := yW r
  obtain ⟨t', rfl⟩ := rx
  have hsz : z.length ≤ sizeLine := by rw [sizeLine_eq]; omega
  have hsp := split_le z y
  have fin : ∀ (l : List (Str × Tok)) (k : Tok), l.map (·.1) = Txt.split z y → EP X pins σ Q (.ref s.heap.objs.size) { s with toks := k, heap := s.heap.push { cls := .type "list", data := .seq (strValues l).toArray } } := fun l k e => by
    have len : ((Txt.split z y).map V.str).length ≤ sizeLine := by rw [List.length_map, sizeLine_eq]; omega
    exact ⟨.ref s.heap.objs.size, _, I.laid (t' := k) (o := .lst ((Txt.split z y).map .str)) (fun b ob g => Heap.get?_push_of_some _ g) (Nat.le_refl _) ⟨len, strValues l, 0, qy e, Heap.get?_push_size _ rfl⟩, rfl, q _ (I.hok.fresh (Nat.le_refl _))⟩
  cases h1 : (decide (z.length < y.length) || decide (Builtin.Str.strKind z < Builtin.Str.strKind y)) with
  | true =>
    have e : [z] = Txt.split z y := (if_pos h1).symm
    refine call_meets PySem.F.slot_str_split (typeIs_str _ _ _) PySem.F.entry_str_split ?_ (meets_str_split_cannot_occur z y t' t h1) ?_
    · exact PySem.F.args_str_split_2 _ _
    · exact fin [(z, t')] s.toks e
  | false =>
    cases hf : (Builtin.Str.occurrences z y 0 z.length (z.length + 1)).isEmpty with
    | true =>
      have e : [z] = Txt.split z y := ((if_neg (by rw [h1]; decide)).trans (if_pos hf)).symm
      refine call_meets PySem.F.slot_str_split (typeIs_str _ _ _) PySem.F.entry_str_split ?_ (meets_str_split_not_found z y t' t h1 hy hf) ?_
      · exact PySem.F.args_str_split_2 _ _
      · exact fin [(z, t')] s.toks e
    | false =>
      have e : Builtin.Str.partsBetween z (Builtin.Str.occurrences z y 0 z.length (z.length + 1)) y.length = Txt.split z y := ((if_neg (by rw [h1]; decide)).trans (if_neg (by rw [hf]; decide))).symm
      refine call_meets PySem.F.slot_str_split (typeIs_str _ _ _) PySem.F.entry_str_split ?_ (meets_str_split_sep z y t' t h1 hy hf hsz ?_) ?_
      · exact PySem.F.args_str_split_2 _ _
      · rw [e, sizeLine_eq]; omega
      · show wants _ _ _ _
        rw [strsFrom_eq]
        exact fin (numbered s.toks _) _ ((numbered_texts _ _).trans e)
end
end L2
namespace L2
open PySem PySem.Spec PyProof.Rows
section
variable {X : Cx} {K : PySem.W.Frag}
theorem y9 (h : X.K = K) : MtR X "str.join" (Zk K) := by subst h; exact Ub
noncomputable def zR (z : Str) : W := .d (.str z)
theorem qA {Γ : Gh} : ∀ {zs : List Str} {vs : List V}, relWs K Γ (zs.map zR) vs → vs = zs.map V.str
  | [], _, .nil => rfl
  | z :: zs, _, .cons r t => by rw [qA t, show _ = V.str z from r]; rfl
noncomputable def Vi : W → List W → OM → WK → Prop := fun x xs O R => ∃ sep w, ∃ zs : List Str, x = .d (.str sep) ∧ xs = [w] ∧ zB O w = some (zs.map zR) ∧ sep.length ≤ 16 ∧ (zs.map (·.length)).sum + zs.length ≤ 1048576 ∧ R (.d (.str (Txt.join sep zs))) O
theorem QC {T : String} : RefM K T (Zk K) Vi := by
  rintro Γ O H x v xs vs S rx rs Q R ⟨sep, w, zs, rfl, rfl, e, h1, h2, h⟩ k
  cases rs with
  | cons rw t =>
    cases t
    obtain ⟨a, us, rfl, q1, q2⟩ := zU S rw e
    rw [qA q2] at q1
    exact ⟨sep, a, zs, rx, rfl, q1, h1, h2, k _ _ _ _ _ (Le.refl _) S y7 h⟩
noncomputable def Ya : W → List W → OM → WK → Prop := fun x xs O R => ∃ z y, x = .d (.str z) ∧ xs = [.d (.str y)] ∧ (y.length == 0) = false ∧ z.length ≤ 100000 ∧ R (.d (.list ((Txt.split z y).map .str))) O
theorem vh {Z : Hp} : ∀ zs : List Str, Reps K Z (zs.map PyData.str) (zs.map V.str)
  | [] => rfl
  | z :: zs => ⟨_, _, rfl, rfl, vh zs⟩
theorem Uc {T : String} : RefM K T Z9 Ya := by
  rintro Γ O H x v xs vs S rx rs Q R ⟨z, y, rfl, rfl, h1, h2, h⟩ k
  cases rs with
  | cons rw t =>
    cases t
    refine ⟨z, y, rx, by rw [show _ = V.str y from rw], h1, h2, fun p hp => ?_⟩
    obtain ⟨Γ', le, S', r'⟩ := vd S (vh (Txt.split z y)) hp
    exact k _ _ _ _ _ le S' r' h
noncomputable def Vj : List W → OM → WK → Prop := fun xs O R => ∃ z n, xs = [.d (.str z)] ∧ intText? z = some n ∧ z.length ≤ 640 ∧ R (.d (.int n)) O
theorem QD : RefC K (fun xs H Q => ∃ z n, xs = [.str z] ∧ intText? z = some n ∧ z.length ≤ 640 ∧ Q (.int n) H) Vj := by
  rintro Γ O H xs vs S rs Q R ⟨z, n, rfl, h1, h2, h⟩ k
  cases rs with
  | cons rw t =>
    cases t
    exact ⟨z, n, by rw [show _ = V.str z from rw], h1, h2, k _ _ _ _ _ (Le.refl _) S yu h⟩
end
end L2
namespace L2
open PySem PySem.Spec PyProof.Rows
section
variable {X : Cx} {K : PySem.W.Frag}
noncomputable def QE : V → Option Int → Option Int → Hp → VK → Prop := fun x lo hi H Q => ∃ z, x = .str z ∧ z.length ≤ sizeLine ∧ Q (.str (Txt.slice z lo hi)) H
theorem xa : SlR X QE := by
  intro pins s σ H x v vl vu lo hi sl Q I rx hs pl pu h
  obtain ⟨z, rfl, hz, q⟩ := h
  obtain ⟨t, rfl⟩ := rx
  refine ⟨"str", _, PySem.F.slot_str_getitem.lookup, typeIs_str _ _ _, ?_⟩
  have fin : ∀ tk k, EP X pins σ Q (.str (Txt.slice z lo hi) tk) { s with toks := k } := fun tk k => ⟨.str _, H, I.tok _, ⟨_, rfl⟩, q⟩
  cases pl with
  | none => cases pu with
    | none => exact wpAny_getItem_str_slice (l := none) (u := none) (st := none) hs rfl (post_val_or_str ⟨Nat.le_trans (Txt.slice_le z _ _) hz, fin⟩)
    | int j uj => exact wpAny_getItem_str_slice (l := none) (u := some (j, uj)) (st := none) hs rfl (post_val_or_str ⟨Nat.le_trans (Txt.slice_le z _ _) hz, fin⟩)
  | int i ui => cases pu with
    | none => exact wpAny_getItem_str_slice (l := some (i, ui)) (u := none) (st := none) hs rfl (post_val_or_str ⟨Nat.le_trans (Txt.slice_le z _ _) hz, fin⟩)
    | int j uj => exact wpAny_getItem_str_slice (l := some (i, ui)) (u := some (j, uj)) (st := none) hs rfl (post_val_or_str ⟨Nat.le_trans (Txt.slice_le z _ _) hz, fin⟩)
noncomputable def QF (Te : TEW) (Tl Th : TOW) : TEW := fun ρ O R => Te ρ O fun x O1 => Tl ρ O1 fun l O2 => Th ρ O2 fun u O3 => ∃ z, x = .d (.str z) ∧ z.length ≤ sizeLine ∧ R (.d (.str (Txt.slice z l u))) O3
theorem Ud {te : TE} {tl th : TO} {Te : TEW} {Tl Th : TOW} (he : zj K te Te) (hl : uQ K tl Tl) (hh : uQ K th Th) : zj K (tSl QE te tl th) (QF Te Tl Th) := by
  intro Γ O H ρ σ S r Q R hT k
  refine he _ _ _ _ _ S r _ _ hT fun Γ1 O1 H1 x v l1 S1 rx h1 => ?_
  refine hl _ _ _ _ _ S1 (r.mono l1) _ _ h1 fun Γ2 O2 H2 l l2 S2 h2 => ?_
  refine hh _ _ _ _ _ S2 (r.mono (l1.trans l2)) _ _ h2 fun Γ3 O3 H3 u l3 S3 h3 => ?_
  obtain ⟨z, rfl, hz, h3⟩ := h3
  exact ⟨z, rx, hz, k _ _ _ _ _ ((l1.trans l2).trans l3) S3 y7 h3⟩
end
end L2
namespace L2
open PySem PySem.Spec PyProof.Rows
section
variable {K : PySem.W.Frag}
end
end L2
namespace L2
open PySem PySem.Spec PyProof.Rows
section
variable {K : PySem.W.Frag}
theorem jw {Z : Hp} {ds : List PyData} {vs : List V} (h : Reps K Z ds vs) : ∀ n, Reps K Z (List.replicate n ds).flatten (List.replicate n vs).flatten
  | 0 => rfl
  | n + 1 => by
    rw [List.replicate_succ, List.replicate_succ, List.flatten_cons, List.flatten_cons]
    exact vK h (jw h n)
end
end L2
namespace L2
open PySem PySem.Spec PyProof.Rows
structure ST where
  w : Nat
  h : Nat
  row : Int
  col : Int
  late : Bool
  ink : Int
  wrap : Bool
  putting : Bool
  home : Bool
  top : Int
  bottom : Int
  left : Int
  right : Int
  last : PyData
  pic : PF
noncomputable def fldW (p st kp : Addr) (S : ST) : List (Str × W) := [("picture", .own p), ("wide", .d (.int S.w)), ("high", .d (.int S.h)), ("row", .d (.int S.row)), ("column", .d (.int S.col)), ("late", .d (.bool S.late)), ("ink", .d (.int S.ink)), ("wrap", .d (.bool S.wrap)), ("putting", .d (.bool S.putting)), ("home", .d (.bool S.home)), ("top", .d (.int S.top)), ("bottom", .d (.int S.bottom)), ("left", .d (.int S.left)), ("right", .d (.int S.right)), ("stops", .own st), ("kept", .own kp), ("last", .d S.last)]
noncomputable def ownW (q : Addr) (S : ST) : List (Key × W) := [(Sum.inr "wide", .d (.int S.w)), (Sum.inr "high", .d (.int S.h)), (Sum.inr "top", .d (.int S.top)), (Sum.inr "left", .d (.int S.left)), (Sum.inr "cells", .own q), (Sum.inr "bottom", .d (.int S.bottom)), (Sum.inr "right", .d (.int S.right)), (Sum.inr "home", .d (.bool S.home)), (Sum.inr "putting", .d (.bool S.putting)), (Sum.inr "wrap", .d (.bool S.wrap)), (Sum.inr "last", .d S.last), (Sum.inr "late", .d (.bool S.late)), (Sum.inr "ink", .d (.int S.ink)), (Sum.inr "row", .d (.int S.row)), (Sum.inr "column", .d (.int S.col))]
section
variable {p st kp q : Addr} {S : ST}
end
structure StAt (O : OM) (C x dx p st kp : Addr) (S : ST) : Prop where
  x : O x = some (.ins C dx (fldW p st kp S))
  p : O p = some (.grid (genG S.h S.w S.pic))
  st : O st = some (.dK ((List.range ((S.w - 1) / 4)).map fun i => (Sum.inl (4 + (i : Nat) * 4 : Int), W.d (.bool true))))
  kp : O kp = some (.lst [])
theorem neW {O : OM} {a b : Addr} {o u : OO} (h : O a = some o) (h' : O b = some u) (d : o ≠ u) : a ≠ b := by
  intro e; subst e; rw [h] at h'; exact d (Option.some.inj h')
section
variable {O O' : OM} {C x dx p st kp : Addr} {S : ST}
theorem StAt.xp (s : StAt O C x dx p st kp S) : x ≠ p := neW s.x s.p (by intro h; cases h)
theorem StAt.xs (s : StAt O C x dx p st kp S) : x ≠ st := neW s.x s.st (by intro h; cases h)
theorem StAt.xk (s : StAt O C x dx p st kp S) : x ≠ kp := neW s.x s.kp (by intro h; cases h)
theorem StAt.ps (s : StAt O C x dx p st kp S) : p ≠ st := neW s.p s.st (by intro h; cases h)
theorem StAt.pk (s : StAt O C x dx p st kp S) : p ≠ kp := neW s.p s.kp (by intro h; cases h)
noncomputable def But (O O' : OM) (x p : Addr) : Prop := ∀ b, b ≠ x → b ≠ p → O' b = O b
theorem But.refl : But O O x p := fun _ _ _ => rfl
theorem But.trans {O1 O2 : OM} (a : But O O1 x p) (b : But O1 O2 x p) : But O O2 x p := fun c h1 h2 => (b c h1 h2).trans (a c h1 h2)
theorem But.up {o : OO} : But O (updO O p o) x p := fun _ _ h => zh h
theorem StAt.pic (s : StAt O C x dx p st kp S) {f : PF} : StAt (updO O p (.grid (genG S.h S.w f))) C x dx p st kp { S with pic := f } :=
  ⟨by rw [zh s.xp]; exact s.x, zp, by rw [zh (Ne.symm s.ps)]; exact s.st, by rw [zh (Ne.symm s.pk)]; exact s.kp⟩
theorem StAt.of (s : StAt O C x dx p st kp S) {S' : ST} (hx : O' x = some (.ins C dx (fldW p st kp S'))) (hp : O' p = some (.grid (genG S'.h S'.w S'.pic))) (hw : S'.w = S.w) (b : But O O' x p) : StAt O' C x dx p st kp S' :=
  ⟨hx, hp, by rw [b _ (Ne.symm s.xs) (Ne.symm s.ps), hw]; exact s.st, by rw [b _ (Ne.symm s.xk) (Ne.symm s.pk)]; exact s.kp⟩
theorem StAt.keep (s : StAt O C x dx p st kp S) {y z : Addr} (b : But O O' y z) (h1 : x ≠ y) (h2 : x ≠ z) (h3 : p ≠ y) (h4 : p ≠ z) (h5 : st ≠ y) (h6 : st ≠ z) (h7 : kp ≠ y) (h8 : kp ≠ z) : StAt O' C x dx p st kp S :=
  ⟨by rw [b _ h1 h2]; exact s.x, by rw [b _ h3 h4]; exact s.p, by rw [b _ h5 h6]; exact s.st, by rw [b _ h7 h8]; exact s.kp⟩
end
structure Bds (S : ST) : Prop where
  w1 : 1 ≤ S.w
  w2 : S.w ≤ 24
  h1 : 1 ≤ S.h
  h2 : S.h ≤ 12
  r0 : 0 ≤ S.row
  r1 : S.row < S.h
  c0 : 0 ≤ S.col
  c1 : S.col < S.w
  t0 : 0 ≤ S.top
  tb : S.top ≤ S.bottom
  b1 : S.bottom < S.h
  l0 : 0 ≤ S.left
  lr : S.left ≤ S.right
  rr : S.right < S.w
  i0 : 0 ≤ S.ink
  i1 : S.ink < 512
end L2
namespace L2
open PySem PySem.Spec PyProof.Rows
theorem Ue {p q : Prop} [Decidable p] [Decidable q] {a b : Prop} : (if p then (if q then a else b) else b) = (if p ∧ q then a else b) := by
  by_cases hp : p <;> by_cases hq : q <;> simp [hp, hq]
noncomputable def QG : PyData → Prop
  | .none => True
  | .int i => 0 ≤ i ∧ i ≤ 1000000
  | _ => False
theorem QG.cs {n : PyData} (h : QG n) : n = .none ∨ ∃ i, n = .int i ∧ 0 ≤ i ∧ i ≤ 1000000 := by
  cases n <;> first | exact .inl rfl | exact h.elim | exact .inr ⟨_, rfl, h.1, h.2⟩
noncomputable def eL (S : ST) : Int := if S.left ≤ S.col then S.left else 0
noncomputable def eR (S : ST) : Int := if S.col ≤ S.right then S.right else S.w - 1
noncomputable def Jn (i : Int) : Cel := (Str.ofString " ", i)
noncomputable def atF (f : PF) (i j : Int) : Cel := f i.toNat j.toNat
noncomputable def mvP (f : PF) (ink t b l r dn ac : Int) : PF := fun i j =>
  if t ≤ (i : Int) ∧ (i : Int) ≤ b ∧ l ≤ (j : Int) ∧ (j : Int) ≤ r then (if t ≤ i + dn ∧ i + dn ≤ b ∧ l ≤ j + ac ∧ j + ac ≤ r then atF f (i + dn) (j + ac) else Jn ink) else f i j
noncomputable def mvS (t b l r dn ac : Int) (S : ST) : ST := { S with pic := mvP S.pic S.ink t b l r dn ac }
noncomputable def QH (s : Int) (S : ST) : ST := { mvS S.row S.row S.col (eR S) 0 s S with late := false }
noncomputable def Jo (S : ST) : ST := { S with col := eL S, late := false }
end L2
namespace L2
open PySem PySem.Spec PyProof.Rows
end L2
namespace L2
open PySem PySem.Spec PyProof.Rows
end L2
namespace L2
open PySem PySem.Spec PyProof.Rows
end L2
namespace L2
open PySem PySem.Spec PyProof.Rows
end L2
namespace L2
open PySem PySem.Spec PyProof.Rows
noncomputable abbrev T3 := Nat × Nat × Int
noncomputable def Cov (f : Nat → Int) : Nat → List T3 → Nat → Prop
  | a, [], b => a = b
  | a, t :: l, b => t.1 = a ∧ t.1 < t.2.1 ∧ (∀ j, t.1 ≤ j → j < t.2.1 → f j = t.2.2) ∧ Cov f t.2.1 l b
theorem Cov.le {f : Nat → Int} : ∀ {l : List T3} {a b : Nat}, Cov f a l b → a + l.length ≤ b
  | [], a, b, h => by cases h; exact Nat.le_refl _
  | t :: l, a, b, ⟨h1, h2, h3, h4⟩ => by have := h4.le; simp only [List.length_cons]; omega
theorem Cov.mem {f : Nat → Int} : ∀ {l : List T3} {a b : Nat}, Cov f a l b → ∀ t ∈ l, a ≤ t.1 ∧ t.1 < t.2.1 ∧ t.2.1 ≤ b ∧ ∀ j, t.1 ≤ j → j < t.2.1 → f j = t.2.2
  | t :: l, a, b, ⟨h1, h2, h3, h4⟩, u, hu => by
    have := h4.le
    rcases List.mem_cons.mp hu with rfl | hu
    · exact ⟨by omega, h2, by omega, h3⟩
    · obtain ⟨q1, q2, q3, q4⟩ := h4.mem u hu
      exact ⟨by omega, q2, q3, q4⟩
end L2
namespace L2
open PySem PySem.Spec PyProof.Rows
theorem Vk {T1 T2 T3 U : TSW} {D : EndsW} {ρ : WS} {O : OM} (J : WS → OM → Prop) (ht : ∀ R : WS → OM → Prop, (∀ ρ' O', J ρ' O' → R ρ' O') → yG T1 (yG T2 T3) { D with nx := R } ρ O) (hu : ∀ ρ' O', J ρ' O' → U D ρ' O') : yG T1 (yG T2 (yG T3 U)) D ρ O := ht (U D) hu
theorem Vl {S : ST} (h : Bds S) : 0 ≤ eL S ∧ eL S < S.w := by
  have := h.l0; have := h.lr; have := h.rr; have := h.w1
  unfold eL; split <;> omega
theorem Bds.left {S : ST} (h : Bds S) : Bds (Jo S) := { h with c0 := (Vl h).1, c1 := (Vl h).2 }
theorem Bds.cells {S : ST} {s : Int} (h : Bds S) : Bds (QH s S) := { h with }
end L2
namespace L2
open PySem PySem.Spec PyProof.Rows
end L2
namespace L2
open PySem
end L2
namespace L2
open PySem PySem.Spec PyProof.Rows
end L2
namespace L2
open PySem PySem.Spec PyProof.Rows
section
variable {X : Cx} {K : PySem.W.Frag}
end
end L2
namespace L2
open PySem PySem.Spec PyProof.Rows
structure OwnAt (O : OM) (d q : Addr) (S : ST) : Prop where
  d : O d = some (.dK (ownW q S))
  q : O q = some (.grid (genG S.h S.w S.pic))
noncomputable def PicOk (S : ST) : Prop := ∀ i j, i < S.h → j < S.w → okC (S.pic i j)
noncomputable def InWin (S : ST) : Prop := S.home = true → S.top ≤ S.row ∧ S.row ≤ S.bottom ∧ S.left ≤ S.col ∧ S.col ≤ S.right
section
variable {O O' : OM} {d q : Addr} {S : ST}
theorem OwnAt.dq (s : OwnAt O d q S) : d ≠ q := neW s.d s.q (by intro h; cases h)
theorem OwnAt.pic (s : OwnAt O d q S) {f : PF} : OwnAt (updO O q (.grid (genG S.h S.w f))) d q { S with pic := f } :=
  ⟨by rw [zh s.dq]; exact s.d, zp⟩
theorem OwnAt.keep (s : OwnAt O d q S) {y z : Addr} (b : But O O' y z) (h1 : d ≠ y) (h2 : d ≠ z) (h3 : q ≠ y) (h4 : q ≠ z) : OwnAt O' d q S :=
  ⟨by rw [b _ h1 h2]; exact s.d, by rw [b _ h3 h4]; exact s.q⟩
end
structure Both (O : OM) (C x dx p st kp d q : Addr) (S S' : ST) : Prop where
  s : StAt O C x dx p st kp S
  o : OwnAt O d q S'
  ds : d ≠ st
  pq : p ≠ q
section
variable {O O' : OM} {C x dx p st kp d q : Addr} {S S' S1 : ST}
theorem Both.dx' (b : Both O C x dx p st kp d q S S') : d ≠ x := neW b.o.d b.s.x (by intro h; cases h)
theorem Both.dp (b : Both O C x dx p st kp d q S S') : d ≠ p := neW b.o.d b.s.p (by intro h; cases h)
theorem Both.qx (b : Both O C x dx p st kp d q S S') : q ≠ x := neW b.o.q b.s.x (by intro h; cases h)
theorem Both.qs (b : Both O C x dx p st kp d q S S') : q ≠ st := neW b.o.q b.s.st (by intro h; cases h)
theorem Both.qk (b : Both O C x dx p st kp d q S S') : q ≠ kp := neW b.o.q b.s.kp (by intro h; cases h)
theorem Both.st' (b : Both O C x dx p st kp d q S S') (h : StAt O' C x dx p st kp S1) (k : But O O' x p) : Both O' C x dx p st kp d q S1 S' :=
  ⟨h, b.o.keep k b.dx' b.dp b.qx (Ne.symm b.pq), b.ds, b.pq⟩
end
noncomputable def Jp (S : ST) : Prop := PicOk S ∧ SeqAt.shaped S.last = true ∧ PyData.eqv S.last S.last = true
structure Drawn (S : ST) : Prop where
  b : Bds S
  ok : PicOk S
  win : InWin S
  last : S.last = .none ∨ ∃ c, S.last = .str c ∧ S.pic S.row.toNat S.col.toNat = (c, S.ink)
  late : S.late = true → S.col = eR S ∧ S.last ≠ .none
theorem QI {c : Str} (h : PyData.strOk c = true) : SeqAt.shaped (.str c) = true ∧ PyData.eqv (.str c) (.str c) = true :=
  ⟨by simp [SeqAt.shaped, PyData.canLay0, PyData.depth, h], by simp [PyData.eqv]⟩
theorem Drawn.all {S : ST} (h : Drawn S) : Jp S := by
  refine ⟨h.ok, ?_⟩
  rcases h.last with e | ⟨c, e, e2⟩
  · rw [e]; exact ⟨rfl, rfl⟩
  · have h0 := h.ok S.row.toNat S.col.toNat (by have := h.b.r0; have := h.b.r1; omega) (by have := h.b.c0; have := h.b.c1; omega)
    rw [e2] at h0
    rw [e]
    exact QI h0
end L2
namespace L2
end L2
namespace L2
open PySem PySem.Spec PyProof.Rows
noncomputable def Old (O O' : OM) : Prop := ∀ b, O b ≠ none → O' b = O b
theorem Old.refl {O : OM} : Old O O := fun _ _ => rfl
theorem Old.upd {O O' : OM} {a : Addr} {o : OO} (h : Old O O') (ha : O a = none) : Old O (updO O' a o) := fun b hb => by
  rw [zh (fun e => by rw [e] at hb; exact hb ha)]; exact h b hb
theorem Old.new {O O' : OM} {a : Addr} (h : Old O O') (ha : O' a = none) : O a = none := by
  cases e : O a with
  | none => rfl
  | some o => rw [h a (by rw [e]; simp)] at ha; rw [ha] at e; cases e
section
variable {q : Addr} {S : ST} {a b : Int} {u : Bool} {l : PyData}
end
end L2
namespace L2
open PySem PySem.Spec PyProof.Rows
theorem PicOk.set {S : ST} {i j : Nat} {c : Str} {k : Int} (h : PicOk S) (hc : PyData.strOk c = true) : PicOk { S with pic := setF S.pic i j (c, k) } := by
  intro x y hx hy
  show okC (setF S.pic i j (c, k) x y)
  unfold setF
  split
  · exact hc
  · exact h x y hx hy
end L2
namespace L2
open PySem PySem.Spec PyProof.Rows
end L2
namespace L2
open PySem PySem.Spec PyProof.Rows
noncomputable def sLaw : SpW := fun ws O R => ∃ ns : List Int, ws = [.d (.list (ns.map .int))] ∧ (∀ n ∈ ns, Bt 1048580 n) ∧ ns.length ≤ 63 ∧ ∀ O', R (.d (.bool true)) O'
end L2
namespace L2
open PySem PySem.Spec PyProof.Rows
theorem zJ {a b : Str} : (a ++ b).cps.toList = a.cps.toList ++ b.cps.toList := by
  show (a.cps ++ b.cps).toList = _
  simp
theorem xM (z : Str) : z.length = z.cps.toList.length := rfl
theorem uS (sep : Str) (zs : List Str) : Txt.join sep zs = Str.join sep zs := eq_of_beq (join_plain_closes sep zs)
end L2
namespace L2
open PySem PySem.Spec PyProof.Rows
theorem Old.del {O O' : OM} {a : Addr} (h : Old O O') (ha : O a = none) : Old O (L2.del O' a) := fun b hb => by
  rw [yR (O := O') (fun e => hb (by rw [e]; exact ha))]
  exact h b hb
end L2
namespace L2
open PySem PySem.Spec PyProof.Rows
end L2
namespace L2
open PySem PySem.Spec PyProof.Rows
end L2
namespace L2
open PySem PySem.Spec PyProof.Rows
section
variable {X : Cx} {K : PySem.W.Frag}
end
end L2
namespace L2
open PySem PySem.Spec PyProof.Rows
end L2
namespace L2
open PySem PySem.Spec PyProof.Rows
section
variable {X : Cx} {K : PySem.W.Frag}
end
end L2
namespace L2
open PySem PySem.Spec PyProof.Rows
section
variable {X : Cx} {k : Nat} {sp : Sp} {C : Addr} {x : Str} {p pos : Pos}
end
theorem jx {z : Str} {lo hi : Option Int} {a b : Nat} (hab : a ≤ b) (hb : b ≤ z.length) (e : Builtin.Str.strSliceIndices lo hi 1 z.length = (List.range (b - a)).map (a + ·)) : (Txt.slice z lo hi).cps.toList = (z.cps.toList.drop a).take (b - a) := by
  have hz : z.length = z.cps.toList.length := rfl
  unfold Txt.slice
  rw [e]
  split
  · rename_i h
    simp at h
    have ha : a = 0 := by omega
    subst ha
    rw [List.drop_zero, List.take_of_length_le (by omega)]
  · show (((List.range (b - a)).map (a + ·)).filterMap (z.cps[·]?)) = _
    rw [List.filterMap_map]
    refine List.ext_getElem? fun i => ?_
    have key : ∀ n, n ≤ b - a → (List.range n).filterMap ((fun x => z.cps[x]?) ∘ fun x => a + x) = (z.cps.toList.drop a).take n := by
      intro n
      induction n with
      | zero => intro _; simp
      | succ n ih =>
        intro hn
        rw [List.range_succ, List.filterMap_append, ih (by omega)]
        have h1 : a + n < z.cps.toList.length := by omega
        have h2 : z.cps[a + n]? = some z.cps.toList[a + n] := by
          rw [← Array.getElem?_toList, List.getElem?_eq_getElem h1]
        have h3 : (z.cps.toList.drop a)[n]? = some z.cps.toList[a + n] := by
          rw [List.getElem?_drop, List.getElem?_eq_getElem h1]
        rw [List.take_succ, h3]
        simp [h2]
    rw [key _ (Nat.le_refl _)]
theorem ku {z : Str} {a : Nat} (ha : a ≤ z.length) : (Txt.slice z (some (a : Int)) none).cps.toList = z.cps.toList.drop a := by
  rw [jx (a := a) (b := z.length) ha (Nat.le_refl _) ?_]
  · rw [List.take_of_length_le (by rw [List.length_drop]; exact Nat.le_refl _)]
  unfold Builtin.Str.strSliceIndices sliceRange
  simp only [show (1 : Int) > 0 by decide, if_true]
  have ca : max 0 (min (if (a : Int) < 0 then (a : Int) + z.length else a) z.length) = (a : Int) := by rw [if_neg (by omega)]; omega
  rw [ca]
  have e : (if (a : Int) < z.length then ((z.length : Int) - a + 1 - 1) / 1 else 0).toNat = z.length - a := by
    split
    · rw [Int.ediv_one]; omega
    · simp; omega
  rw [e]
  refine List.map_congr_left fun k hk => ?_
  omega
theorem uT {a b : Str} (h : a.cps.toList = b.cps.toList) : a = b := by
  obtain ⟨a⟩ := a
  obtain ⟨b⟩ := b
  exact congrArg Str.mk (Array.ext' h)
noncomputable abbrev sgS (c : Nat) : Str := ⟨#[c]⟩
noncomputable abbrev sgW (c : Nat) : W := .d (.str (sgS c))
noncomputable def Vm (c : Nat) : Prop := (97 ≤ c ∧ c ≤ 122) ∨ (65 ≤ c ∧ c ≤ 90)
noncomputable def Vn (c : Nat) : Prop := 48 ≤ c ∧ c ≤ 57
instance (c : Nat) : Decidable (Vm c) := by unfold Vm; infer_instance
instance (c : Nat) : Decidable (Vn c) := by unfold Vn; infer_instance
structure RdAt (C : Addr) (O : OM) (x dx p : Addr) (b : List Nat) : Prop where
  x : O x = some (.ins C dx [(Str.ofString "begun", .own p)])
  p : O p = some (.lst (b.map sgW))
theorem RdAt.ne {C : Addr} {O : OM} {x dx p : Addr} {b : List Nat} (h : RdAt C O x dx p b) : x ≠ p := fun e => by
  have := h.x; rw [e, h.p] at this; cases this
end L2
namespace L2
open PySem PySem.Spec PyProof.Rows
section
variable {K : PySem.W.Frag}
theorem Sim.shrink {Γ : Gh} {O O' : OM} {H : Hp} (S : Sim K Γ O' H) (h : Old O O') : Sim K Γ O H := by
  have k1 : ∀ {x : Addr} {o : OO}, O x = some o → O' x = some o := fun {x o} e => by rw [h x (by rw [e]; simp)]; exact e
  have k0 : ∀ {x : Addr}, O' x = none → O x = none := fun {x} e => by
    cases q : O x with
    | none => rfl
    | some o => rw [k1 q] at e; cases e
  refine ⟨S.z, fun x o e => ?_, S.gd, S.f, fun x o e hn => S.gn x o (k1 e) hn, S.fg, fun x o e => ⟨(S.fd x o e).1, k0 (S.fd x o e).2.1, fun b rows rs e1 => (S.fd x o e).2.2 b rows rs (k1 e1)⟩, fun x b ra rb rs ss r e1 e2 => S.u x b ra rb rs ss r (k1 e1) (k1 e2)⟩
  obtain ⟨h1, h2⟩ := S.o _ _ (k1 e)
  refine ⟨h1, h2.keep (Le.refl _) rfl rfl fun rs r hg ⟨rows, hrw⟩ hr => ?_⟩
  subst hrw
  obtain ⟨_, q2, _⟩ := S.rowIn (k1 e) hg hr
  refine ⟨rfl, rfl, ?_⟩
  rw [q2]
  exact k0 q2
theorem FnOk.forget {P : Program} {w : World} {mg : Str → Option Value} {base : Heap} {CX : CXT} {k : Nat} {f : Addr} {fd : FuncData} {ps : List Str} {s s' : SpW} (F : FnOk P w K mg base CX k f fd ps (zf K s'))
    (h : ∀ ws O R, s ws O R → s' ws O fun w O' => Old O O' ∧ R w O) : FnOk P w K mg base CX k f fd ps (zf K s) :=
  F.imp fun vs H Q E ⟨Γ, O, ws, R, S, r, hs, k⟩ => ⟨Γ, O, ws, _, S, r, h ws O R hs, fun Γ' O' H' w v l S' rw ⟨ho, hR⟩ => k Γ' O H' w v l (S'.shrink ho) rw hR⟩
section
variable {X : Cx} {N : List Str} {n : Nat} {js : List Nat} {scope : Scope} {cl : List (Str × Addr)} {elt tg iter : Expr} {ifs : List Expr} {pos : Pos} {wi : TI} {g : TG} {tt : TT} {te : TE}
end
end
end L2
namespace L2
open PySem PySem.Spec PyProof.Rows
end L2
namespace L2
open PySem PySem.Spec PyProof.Rows
end L2
namespace L2
open PySem PySem.Spec PyProof.Rows
theorem RdAt.old {C : Addr} {O O' : OM} {x dx p : Addr} {b : List Nat} (r : RdAt C O x dx p b) (h : Old O O') : RdAt C O' x dx p b := ⟨by rw [h x (by rw [r.x]; simp)]; exact r.x, by rw [h p (by rw [r.p]; simp)]; exact r.p⟩
end L2
namespace L2
open PySem PySem.Spec PyProof.Rows
end L2
namespace L2
open PySem PySem.Spec PyProof.Rows
section
variable {X : Cx} {K : PySem.W.Frag}
noncomputable def frz (w : W) (O : OM) : Option (PyData × OM) := match w with
  | .d x => some (x, O)
  | .own a => match O a with
    | some (.lst ws) => (zQ ws).map fun ds => (.list ds, del O a)
    | _ => none
  | _ => none
noncomputable def frzs : List W → OM → Option (List PyData × OM)
  | [], O => some ([], O)
  | w :: ws, O => match frz w O with
    | some (d, O1) => (frzs ws O1).map fun q => (d :: q.1, q.2)
    | none => none
end
end L2
namespace L2
open PySem PySem.Spec PyProof.Rows
end L2
namespace L2
open PySem PySem.Spec PyProof.Rows
end L2
namespace L2
open PySem PySem.Spec PyProof.Rows
structure Two (C : Addr) (O : OM) (xb db pb : Addr) (bb : List Nat) (xr dr pr : Addr) (br : List Nat) : Prop where
  b : RdAt C O xb db pb bb
  r : RdAt C O xr dr pr br
  nx : xb ≠ xr
  np : pb ≠ pr
section
variable {C : Addr} {O O' : OM} {xb db pb xr dr pr p' q : Addr} {bb br br' bb' : List Nat}
theorem Two.xp (h : Two C O xb db pb bb xr dr pr br) : xb ≠ pr ∧ xr ≠ pb := ⟨fun e => (by have := h.b.x; rw [e, h.r.p] at this; cases this), fun e => (by have := h.r.x; rw [e, h.b.p] at this; cases this)⟩
theorem Two.old (h : Two C O xb db pb bb xr dr pr br) (ho : Old O O') : Two C O' xb db pb bb xr dr pr br := ⟨h.b.old ho, h.r.old ho, h.nx, h.np⟩
noncomputable def Vo (q xb pb xr pr : Addr) : Prop := q ≠ xb ∧ q ≠ pb ∧ q ≠ xr ∧ q ≠ pr
theorem Two.apart (h : Two C O xb db pb bb xr dr pr br) (hq : O q = none) : Vo q xb pb xr pr :=
  ⟨fun e => (by rw [e, h.b.x] at hq; cases hq), fun e => (by rw [e, h.b.p] at hq; cases hq), fun e => (by rw [e, h.r.x] at hq; cases hq), fun e => (by rw [e, h.r.p] at hq; cases hq)⟩
theorem Two.upd (h : Two C O xb db pb bb xr dr pr br) (hq : Vo q xb pb xr pr) (o : OO) : Two C (updO O q o) xb db pb bb xr dr pr br := by
  obtain ⟨q1, q2, q3, q4⟩ := hq
  exact ⟨⟨by rw [zh (Ne.symm q1)]; exact h.b.x, by rw [zh (Ne.symm q2)]; exact h.b.p⟩, ⟨by rw [zh (Ne.symm q3)]; exact h.r.x, by rw [zh (Ne.symm q4)]; exact h.r.p⟩, h.nx, h.np⟩
end
end L2
namespace L2
open PySem PySem.Spec PyProof.Rows
section
variable {K : PySem.W.Frag}
section
variable {X : Cx} {N : List Str} {n : Nat} {js : List Nat} {scope : Scope} {cl : List (Str × Addr)} {elt tg iter : Expr} {ifs : List Expr} {pos : Pos} {wi : TI} {g : TG} {tt : TT} {te : TE}
end
noncomputable def qQ (O : OM) : W → Option PyData
  | .d x => some x
  | .own a => match O a with
    | some (.lst ws) => (zQ ws).map .list
    | _ => none
  | _ => none
noncomputable def xl (O : OM) : List W → Option (List PyData)
  | [] => some []
  | w :: ws => match qQ O w, xl O ws with
    | some d, some ds => some (d :: ds)
    | _, _ => none
noncomputable def xw (O : OM) : W → Option PyData
  | .d x => some x
  | .own a => match O a with
    | some (.lst ws) => (xl O ws).map .list
    | some (.grid rows) => some (.list (rows.map .list))
    | _ => none
  | .row a i => uK O (.row a i)
theorem Yb {Γ : Gh} {O : OM} {H : Hp} {w : W} {v : V} {x : PyData} (S : Sim K Γ O H) (r : relW K Γ w v) (e : qQ O w = some x) : Rep K H x v := by
  cases w with
  | d y => cases e; exact Rep.same S.z _ _ r
  | row _ _ => cases e
  | own a =>
    refine vG S r ?_
    simp only [qQ] at e
    simp only [uK]
    split at e
    · rename_i ws h
      rw [h]
      exact e
    · cases e
theorem ug {Γ : Gh} {O : OM} {H : Hp} (S : Sim K Γ O H) : ∀ {ws : List W} {vs : List V} {ds : List PyData}, relWs K Γ ws vs → xl O ws = some ds → Reps K H ds vs
  | [], _, ds, r, e => by
    cases r
    cases e
    exact rfl
  | w :: ws, _, ds, r, e => by
    cases r with
    | cons rx t =>
      simp only [xl] at e
      split at e
      · rename_i d ds' e1 e2
        cases e
        exact ⟨_, _, rfl, Yb S rx e1, ug S t e2⟩
      · cases e
theorem xx {Γ : Gh} {O : OM} {H : Hp} {w : W} {v : V} {x : PyData} (S : Sim K Γ O H) (r : relW K Γ w v) (e : xw O w = some x) : Rep K H x v := by
  cases w with
  | d y => cases e; exact Rep.same S.z _ _ r
  | row a i => exact vG S r e
  | own a =>
    simp only [xw] at e
    split at e
    · rename_i ws h
      cases (show v = .ref a from r)
      cases hd : xl O ws with
      | none => rw [hd] at e; cases e
      | some ds =>
        rw [hd] at e
        cases e
        obtain ⟨_, vs, h1, h2⟩ := S.o _ _ h
        exact ⟨a, vs, rfl, SqL.of h1, ug S h2 hd⟩
    · rename_i rows h
      refine vG S r ?_
      simp only [uK, h]
      exact e
    · cases e
noncomputable def Vp : R2W := fun x y O R => ∃ a b, xw O x = some a ∧ xw O y = some b ∧ SeqAt.shaped a = true ∧ SeqAt.shaped b = true ∧ R (.d (.bool (PyData.eqv a b))) O
noncomputable def Vq : R2W := fun x y O R => ∃ a b, xw O x = some a ∧ xw O y = some b ∧ SeqAt.shaped a = true ∧ SeqAt.shaped b = true ∧ R (.d (.bool (!PyData.eqv a b))) O
theorem QJ : RefR K (YU K) Vp := by
  rintro Γ O H x y v u S rx ry Q R ⟨a, b, e1, e2, s1, s2, h⟩ k
  exact ⟨a, b, xx S rx e1, xx S ry e2, s1, s2, k _ _ _ _ _ (Le.refl _) S yn h⟩
theorem QK : RefR K (YV K) Vq := by
  rintro Γ O H x y v u S rx ry Q R ⟨a, b, e1, e2, s1, s2, h⟩ k
  exact ⟨a, b, xx S rx e1, xx S ry e2, s1, s2, k _ _ _ _ _ (Le.refl _) S yn h⟩
theorem uh (O : OM) : ∀ ds : List PyData, xl O (ds.map .d) = some ds
  | [] => rfl
  | d :: ds => by simp only [List.map_cons, xl, qQ, uh O ds]
end
end L2
namespace L2
open PySem PySem.Spec PyProof.Rows
section
variable {P : Program} {w : World} {K : PySem.W.Frag} {mg : Str → Option Value} {base : Heap}
theorem FunD.okX {x qual : Str} {st : Stmt} {ds : List Value} {f : Addr} {fd : FuncData} {N ps : List Str} {k : Nat} {sp : Sp} (F : FunD K x qual st ds f fd) (S : FnScope N ps (defScope st))
    (len : ∀ vs H Q E, sp vs H Q E → vs.length = ps.length)
    (hbody : ∀ (cdv : Value) (A : Around) (outer : List Env) (s : Shared) (H : Hp) (vs : List V) (Q : VK) (E : XK), Room k (A.deeper (envOfC qual (defScope st) s.heap.objs.size f cdv)) → sp vs H Q E →
      ∃ t, PSs (cxOf (CX1 P w) P w K mg base N qual (defScope st) f cdv A outer s H E) (defBody st) t ∧ t { nx := fun _ H' => Q .non H', rt := Q } (L2.start N vs) H) : FnOk P w K mg base (CX1 P w) (k + 1) f fd ps sp := by
  obtain ⟨oc, od, kV, doc, pm, an, cdv, ct, osl, T, oT, n, rfl, lk, hcd, _, _⟩ := F.ex
  exact qL lk hcd S len fun A outer s H vs Q E hr hsp => hbody cdv A outer s H vs Q E hr hsp
end
theorem Rd.but {H H' : Hp} {x a : Addr} {u : HO} {C dx : Addr} {fs : List (Str × V)} (hx : H x = some (.ins C dx fs)) (hk : ∀ b o, b ≠ x → H b = some o → H' b = some o) (hu : (∃ vs, u = .lst vs) ∨ (∃ vs, u = .tup vs) ∨ ∃ kvs, u = .dK kvs) (r : Rd H a u) : Rd H' a u := by
  have ne : a ≠ x := fun z => by
    subst z
    rcases r with r | ⟨o, r⟩
    · rw [hx] at r
      cases r
      rcases hu with ⟨_, e⟩ | ⟨_, e⟩ | ⟨_, e⟩ <;> cases e
    · rw [hx] at r; cases r
  rcases r with r | ⟨o, r⟩
  · exact .inl (hk a _ ne r)
  · exact .inr ⟨o, hk a _ ne r⟩
mutual
theorem Rep.but {K : PySem.W.Frag} {H H' : Hp} {x : Addr} {C dx : Addr} {fs : List (Str × V)} (hx : H x = some (.ins C dx fs)) (hk : ∀ b o, b ≠ x → H b = some o → H' b = some o) : ∀ (d : PyData) (v : V), Rep K H d v → Rep K H' d v
  | .none, _, h => h
  | .bool _, _, h => h
  | .int _, _, h => h
  | .str _, _, h => h
  | .list ds, _, ⟨a, xs, e, h1, h2⟩ => ⟨a, xs, e, h1.elim (fun r => .inl (r.but hx hk (.inl ⟨_, rfl⟩))) .inr, Reps.but hx hk ds xs h2⟩
  | .tuple ds, _, ⟨a, xs, e, h1, h2⟩ => ⟨a, xs, e, h1.elim (fun r => .inl (r.but hx hk (.inr (.inl ⟨_, rfl⟩)))) .inr, Reps.but hx hk ds xs h2⟩
  | .dict _, _, ⟨e0, a, e, h1⟩ => ⟨e0, a, e, h1.but hx hk (.inr (.inr ⟨_, rfl⟩))⟩
theorem Reps.but {K : PySem.W.Frag} {H H' : Hp} {x : Addr} {C dx : Addr} {fs : List (Str × V)} (hx : H x = some (.ins C dx fs)) (hk : ∀ b o, b ≠ x → H b = some o → H' b = some o) : ∀ (ds : List PyData) (vs : List V), Reps K H ds vs → Reps K H' ds vs
  | [], _, h => h
  | d :: ds, _, ⟨x', r, e, h1, h2⟩ => ⟨x', r, e, Rep.but hx hk d x' h1, Reps.but hx hk ds r h2⟩
end
end L2
namespace L2
open PySem PySem.Spec PyProof.Rows
end L2
namespace PySem.AutoListH
open AutoSeq1 (wpAny_loadPart')
open MeetsSeq MeetsSeq2 MeetsSeq3 SeqRoads2
theorem list_mul_sl (l : Addr) (items : Array Value) (n : Nat) (sl : Array (Option Value)) (x : Int) (u : Tok) (hc0 : ¬(!Builtin.List.listFitsIndex x) = true) (hc1 : ¬items.size * x.toNat > (2 ^ 63 - 1) / 8) (hc2 : ¬Builtin.List.listTooLong (items.size * x.toNat) = true) :
    Meets (Builtin.«list.__mul__» ⟨[.ref l, .int x u], []⟩) (fun _ R s => s.heap.get? l = some { cls := .type "list", dict := none, data := .seq items n, slots := sl } ∧ R (.ok (.ret (Value.ref s.heap.objs.size))) { s with heap := s.heap.push { cls := Value.type "list", data := Data.seq (List.foldl (fun x1 x2 => x1 ++ x2) #[] (List.replicate (if items.isEmpty = true then 0 else x.toNat) items)) }, toks := s.toks }) :=
  .of_wp fun prog w A R s h => by
    obtain ⟨hp, g, d, tk, os⟩ := s; obtain ⟨hl, h⟩ := h
    have hsz := joined_fits hc2
    wp_walk using wpAny_loadPart' hl; refine wpAny_ite_false (decide_eq_false (Nat.not_lt.mpr hsz)) ?_; wp_walk; exact ⟨_, rfl, h⟩
theorem rmul_sl (a : Int) (t : Tok) (l : Addr) (items : Array Value) (n : Nat) (sl : Array (Option Value)) :
    Meets (Builtin.«int.__rmul__» ⟨[.int a t, .ref l], []⟩) (fun _ R s => s.heap.get? l = some { cls := .type "list", dict := none, data := .seq items n, slots := sl } ∧ R (.ok (.ret Value.notImplemented)) s) :=
  .of_wp fun prog w A R s h => by obtain ⟨hp, g, d, tk, os⟩ := s; obtain ⟨hl, h⟩ := h; wp_walk; exact ⟨_, rfl, h⟩
end PySem.AutoListH
namespace L2
open PySem PySem.Spec PyProof.Rows
noncomputable abbrev YK := Addr → OM → Prop
noncomputable abbrev SpX := List W → OM → WK → YK → Prop
section
variable (K : PySem.W.Frag)
noncomputable def uU (Γ : Gh) (E : XK) (Y : YK) : Prop := ∀ Γ' O' H' C, Le Γ Γ' → Sim K Γ' O' H' → Y C O' → E (.ref C) none H'
noncomputable def yq (s : SpX) : Sp := fun vs H Q E => ∃ Γ O ws R Y, Sim K Γ O H ∧ relWs K Γ ws vs ∧ s ws O R Y ∧ (∀ Γ' O' H' w v, Le Γ Γ' → Sim K Γ' O' H' → relW K Γ' w v → R w O' → Q v H') ∧ uU K Γ E Y
noncomputable def yk (t : XK → TS) (T : YK → TSW) : Prop := ∀ E Y Γ O H ρ σ D DW, Sim K Γ O H → relR K Γ ρ σ → uU K Γ E Y → T Y DW ρ O → EndsR K Γ D DW → t E D σ H
noncomputable def uk (t : XK → TE) (T : YK → TEW) : Prop := ∀ E Y Γ O H ρ σ, Sim K Γ O H → relR K Γ ρ σ → uU K Γ E Y → ∀ (Q : VK) (R : WK), T Y ρ O R → (∀ Γ' O' H' w v, Le Γ Γ' → Sim K Γ' O' H' → relW K Γ' w v → R w O' → Q v H') → t E σ H Q
end
section
variable {K : PySem.W.Frag}
theorem uU.mono {Γ Γ' : Gh} {E : XK} {Y : YK} (h : uU K Γ E Y) (l : Le Γ Γ') : uU K Γ' E Y := fun _ _ _ _ l2 => h _ _ _ _ (l.trans l2)
theorem Uf {t : TS} {T : TSW} (h : RefS K t T) : yk K (fun _ => t) (fun _ => T) := fun _ _ Γ O H ρ σ D DW S r _ hT e => h Γ O H ρ σ D DW S r hT e
theorem Xt {t : TE} {T : TEW} (h : zj K t T) : uk K (fun _ => t) (fun _ => T) := fun _ _ Γ O H ρ σ S r _ Q R hT k => h Γ O H ρ σ S r Q R hT k
theorem Xu {t u : XK → TS} {T U : YK → TSW} (h : yk K t T) (g : yk K u U) : yk K (fun E => uA (t E) (u E)) (fun Y => yG (T Y) (U Y)) := fun E Y Γ O H ρ σ D DW S r m hT e =>
  h E Y Γ O H ρ σ { D with nx := u E D } { DW with nx := U Y DW } S r m hT ⟨fun Γ' O' H' ρ' σ' l S' r' h' => g E Y _ _ _ _ _ _ _ S' r' (m.mono l) h' (e.mono l), e.rt, e.bk, e.ct⟩
theorem Xv {c : TT} {C : TTW} {t u : XK → TS} {T U : YK → TSW} (hc : ye K c C) (h : yk K t T) (g : yk K u U) : yk K (fun E => kQ c (t E) (u E)) (fun Y => jr C (T Y) (U Y)) := fun E Y Γ O H ρ σ D DW S r m hT e => by
  refine hc _ _ _ _ _ S r _ _ hT fun Γ1 O1 H1 b l S1 h1 => ?_
  cases b with
  | true => rw [if_pos rfl] at h1 ⊢; exact h E Y _ _ _ _ _ _ _ S1 (r.mono l) (m.mono l) h1 (e.mono l)
  | false => rw [if_neg (by decide)] at h1 ⊢; exact g E Y _ _ _ _ _ _ _ S1 (r.mono l) (m.mono l) h1 (e.mono l)
noncomputable def Yc (T : TAW) (C : Addr) : YK → TSW := fun Y _ ρ O => T ρ O fun ws O1 => ws.length ≤ 100 ∧ Y C O1
theorem Zl {t : TA} {T : TAW} {C : Addr} (h : zY K t T) : yk K (fun E => jl t C E) (Yc T C) := by
  intro E Y Γ O H ρ σ D DW S r m hT e
  refine h _ _ _ _ _ S r _ _ hT fun Γ1 O1 H1 ws vs l1 S1 rs h1 => ?_
  refine ⟨by rw [← Paired.length rs, sizeLine_eq]; omega, m _ _ _ _ l1 S1 h1.2⟩
theorem Yd {t : XK → TE} {T : YK → TEW} (h : uk K t T) : yk K (fun E => vY (t E)) (fun Y => uc (T Y)) := fun E Y Γ O H ρ σ D DW S r m hT e =>
  h E Y _ _ _ _ _ S r m _ _ hT fun Γ1 O1 H1 w v l S1 r1 h1 => e.nx _ _ _ _ _ l S1 (r.mono l) h1
theorem Xw {t : XK → TE} {T : YK → TEW} (h : uk K t T) : yk K (fun E => qX (t E)) (fun Y => Zf (T Y)) := fun E Y Γ O H ρ σ D DW S r m hT e =>
  h E Y _ _ _ _ _ S r m _ _ hT fun Γ1 O1 H1 w v l S1 r1 h1 => e.rt _ _ _ _ _ l S1 r1 h1
noncomputable def jy (s : SpX) (dvs : List V) (T : TAW) (Y : YK) : TEW := fun ρ O R => T ρ O fun ws O1 => s (ws ++ dvs.map ofV) O1 R Y
theorem Ye {s : SpX} {dvs : List V} {t : TA} {T : TAW} (h : zY K t T) (hd : dvs.all scV = true := by rfl) : uk K (fun E => yp (yq K s) dvs E t) (jy s dvs T) := by
  intro E Y Γ O H ρ σ S r0 m Q R hT k
  refine h Γ O H ρ σ S r0 _ _ hT fun Γ1 O1 H1 ws vs l1 S1 rs h1 => ?_
  exact ⟨Γ1, O1, _, R, Y, S1, Paired.appP rs (xj hd), h1, fun Γ2 O2 H2 w v l2 S2 r2 h2 => k _ _ _ _ _ (l1.trans l2) S2 r2 h2, m.mono l1⟩
noncomputable def jz (s : SpX) (dvs : List V) (T : TAW) : TEW := fun ρ O R => T ρ O fun ws O1 => s (ws ++ dvs.map ofV) O1 R fun _ _ => False
theorem Yf {s : SpX} {dvs : List V} {t : TA} {T : TAW} (h : zY K t T) (hd : dvs.all scV = true := by rfl) : zj K (yp (yq K s) dvs E0 t) (jz s dvs T) := by
  intro Γ O H ρ σ S r0 Q R hT k
  refine h Γ O H ρ σ S r0 _ _ hT fun Γ1 O1 H1 ws vs l1 S1 rs h1 => ?_
  exact ⟨Γ1, O1, _, R, _, S1, Paired.appP rs (xj hd), h1, fun Γ2 O2 H2 w v l2 S2 r2 h2 => k _ _ _ _ _ (l1.trans l2) S2 r2 h2, fun _ _ _ _ _ _ z => z.elim⟩
theorem Zm {s : SpX} {t : TA} {T : TAW} (h : zY K t T) : zj K (yp (yq K s) [] E0 t) (jz s [] T) := Yf h
theorem Zn {s : SpX} {t : TA} {T : TAW} (h : zY K t T) : uk K (fun E => yp (yq K s) [] E t) (jy s [] T) := Ye h
variable {P : Program} {w : World} {mg : Str → Option Value} {base : Heap}
theorem Fun.okXV {x qual : Str} {st : Stmt} {f : Addr} {fd : FuncData} {N ps : List Str} {k : Nat} {s : SpX} {t : XK → TS} {T : YK → TSW} (F : Fun K x qual st f fd) (S : FnScope N ps (defScope st)) (len : ∀ ws O R Y, s ws O R Y → ws.length = ps.length)
    (hP : ∀ (cdv : Value) (A : Around) (outer : List Env) (sh : Shared) (H : Hp) (E : XK), Room k (A.deeper (envOfC qual (defScope st) sh.heap.objs.size f cdv)) → PSs (cxOf (CX1 P w) P w K mg base N qual (defScope st) f cdv A outer sh H E) (defBody st) (t E))
    (hR : yk K t T) (hb : ∀ ws O R Y, s ws O R Y → T Y { nx := fun _ O' => Clo R (.d .none) O', rt := Clo R } (yf N ws) O) : FnOk P w K mg base (CX1 P w) (k + 1) f fd ps (yq K s) := by
  refine F.okX S (fun vs H Q E h => ?_) (fun cdv A outer sh H vs Q E hr h => ?_)
  · obtain ⟨Γ, O, ws, R, Y, S1, r, hs, _⟩ := h
    rw [← Paired.length r]
    exact len ws O R Y hs
  · obtain ⟨Γ, O, ws, R, Y, S1, r, hs, kk, m⟩ := h
    refine ⟨t E, hP cdv A outer sh H E hr, hR E Y Γ O H _ _ _ _ S1 (yA r) m (hb ws O R Y hs) ⟨fun Γ' O' H' ρ' σ' l S' r' h' => ?_, fun Γ' O' H' w v l S' r' h' => ?_, fun _ _ _ _ _ _ _ _ h => h.elim, fun _ _ _ _ _ _ _ _ h => h.elim⟩⟩
    · exact yv S' y8 h' fun Γ2 O2 H2 w v l2 => kk _ _ _ _ _ (l.trans l2)
    · exact yv S' r' h' fun Γ2 O2 H2 w v l2 => kk _ _ _ _ _ (l.trans l2)
theorem FunD.okXV {x qual : Str} {st : Stmt} {ds : List Value} {f : Addr} {fd : FuncData} {N ps : List Str} {k : Nat} {s : SpX} {t : XK → TS} {T : YK → TSW} (F : FunD K x qual st ds f fd) (S : FnScope N ps (defScope st)) (len : ∀ ws O R Y, s ws O R Y → ws.length = ps.length)
    (hP : ∀ (cdv : Value) (A : Around) (outer : List Env) (sh : Shared) (H : Hp) (E : XK), Room k (A.deeper (envOfC qual (defScope st) sh.heap.objs.size f cdv)) → PSs (cxOf (CX1 P w) P w K mg base N qual (defScope st) f cdv A outer sh H E) (defBody st) (t E))
    (hR : yk K t T) (hb : ∀ ws O R Y, s ws O R Y → T Y { nx := fun _ O' => Clo R (.d .none) O', rt := Clo R } (yf N ws) O) : FnOk P w K mg base (CX1 P w) (k + 1) f fd ps (yq K s) := by
  refine F.okX S (fun vs H Q E h => ?_) (fun cdv A outer sh H vs Q E hr h => ?_)
  · obtain ⟨Γ, O, ws, R, Y, S1, r, hs, _⟩ := h
    rw [← Paired.length r]
    exact len ws O R Y hs
  · obtain ⟨Γ, O, ws, R, Y, S1, r, hs, kk, m⟩ := h
    refine ⟨t E, hP cdv A outer sh H E hr, hR E Y Γ O H _ _ _ _ S1 (yA r) m (hb ws O R Y hs) ⟨fun Γ' O' H' ρ' σ' l S' r' h' => ?_, fun Γ' O' H' w v l S' r' h' => ?_, fun _ _ _ _ _ _ _ _ h => h.elim, fun _ _ _ _ _ _ _ _ h => h.elim⟩⟩
    · exact yv S' y8 h' fun Γ2 O2 H2 w v l2 => kk _ _ _ _ _ (l.trans l2)
    · exact yv S' r' h' fun Γ2 O2 H2 w v l2 => kk _ _ _ _ _ (l.trans l2)
theorem Sim.grow {Γ : Gh} {O : OM} {H H' : Hp} (S : Sim K Γ O H) (h : Same H H') : Sim K Γ O H' := by
  refine ⟨fun b u e => h _ _ (S.z _ _ e), fun a oo e => ?_, fun a rs e => ?_, fun b u e => h _ _ (S.f _ _ e), S.gn, S.fg, S.fd, S.u⟩
  · obtain ⟨h1, h2⟩ := S.o _ _ e
    refine ⟨h1, ?_⟩
    cases oo with
    | lst ws => obtain ⟨vs, q1, q2⟩ := h2; exact ⟨vs, h _ _ q1, q2⟩
    | dK kvs => obtain ⟨vs, q1, q2⟩ := h2; exact ⟨vs, h _ _ q1, q2⟩
    | ins C dx fs => obtain ⟨vs, q1, q2⟩ := h2; exact ⟨vs, h _ _ q1, q2⟩
    | grid rows =>
      obtain ⟨rs, q1, q2, q3, q4, q5⟩ := h2
      refine ⟨rs, q1, h _ _ q2, q3, q4, fun i r ds e1 e2 => ?_⟩
      obtain ⟨z1, z2, vs, z3, z4⟩ := q5 i r ds e1 e2
      exact ⟨z1, z2, vs, h _ _ z3, z4⟩
  · obtain ⟨o, q⟩ := S.gd _ _ e
    exact ⟨o, h _ _ q⟩
end
noncomputable def tyN : PyData → String
  | .none => "NoneType"
  | .bool _ => "bool"
  | .int _ => "int"
  | .str _ => "str"
  | .list _ => "list"
  | .tuple _ => "tuple"
  | .dict _ => "dict"
noncomputable def Yg : PyData → Bool
  | .int _ => true
  | .bool _ => true
  | _ => false
noncomputable def kw : PyData → Bool
  | .bool _ => true
  | _ => false
noncomputable def Yh : PyData → Bool
  | .str _ => true
  | _ => false
noncomputable def ky : PyData → Bool
  | .list _ => true
  | _ => false
noncomputable def Yi : PyData → Bool
  | .tuple _ => true
  | _ => false
noncomputable def isN (d : PyData) : String → Bool
  | "int" => Yg d
  | "bool" => kw d
  | "str" => Yh d
  | "list" => ky d
  | _ => Yi d
noncomputable def okN : String → Bool
  | "bool" => true
  | "int" => true
  | "str" => true
  | "list" => true
  | "tuple" => true
  | _ => false
theorem Ug {K : PySem.W.Frag} (d : PyData) {n : String} (h : okN n = true) : PySem.W.kitOne K (.type (tyN d)) (.type n) = some (isN d n) := by
  unfold okN at h
  split at h <;> first | (cases d <;> rfl) | cases h
noncomputable def Xx (K : PySem.W.Frag) : List V → Hp → VK → Prop := fun xs H Q => ∃ d x n, xs = [x, .ty n] ∧ Rep K H d x ∧ okN n = true ∧ Q (.bl (isN d n)) H
theorem Xy {X : Cx} : zN X (.builtin "isinstance") (Xx X.K) := by
  intro pins s σ H xs us Q I r h
  obtain ⟨d, x, n, rfl, hd, hn, q⟩ := h
  obtain ⟨u, c, rfl, ru, rc⟩ := r.two
  cases rc
  have e := Ug (K := X.K) d hn
  have fin : ∀ tk, ∃ v H', Inv X pins σ H' { s with toks := tk } ∧ RelV v (.bool (isN d n)) ∧ Q v H' := fun tk => ⟨.bl _, H, I.tok tk, rfl, q⟩
  cases d with
  | none => cases (show x = .non from hd); exact xv I ru .non e fin
  | bool b => cases (show x = .bl b from hd); exact xv I ru (.bl _) e fin
  | int b => cases (show x = .int b from hd); exact xv I ru (.int _) e fin
  | str b => cases (show x = .str b from hd); exact xv I ru (.str _) e fin
  | list ds =>
    obtain ⟨a, ys, rfl, h1, _⟩ := hd
    cases ru
    obtain ⟨its, rv, ⟨o, m, h2, h3, _⟩, _⟩ := I.list h1
    exact PySem.W.kia_one PySem.W.kitx_list I.kIn ⟨o, h2, h3⟩ e (fun z => nomatch z) fin
  | tuple ds =>
    obtain ⟨a, ys, rfl, h1, _⟩ := hd
    cases ru
    obtain ⟨its, rv, ⟨o, h2, h3, _⟩, _⟩ := I.tuple h1
    exact PySem.W.kia_one PySem.W.kitx_tuple I.kIn ⟨o, h2, h3⟩ e (fun z => nomatch z) fin
  | dict kvs =>
    obtain ⟨rfl, a, rfl, h1⟩ := hd
    cases ru
    obtain ⟨_, _, vs, _, p⟩ := (show zI X.prog X.w H s.heap a (.dK []) from h1.ok I.hok)
    obtain ⟨o, es, ep, h2, h3, _⟩ := p
    exact PySem.W.kia_one PySem.W.kitx_dict I.kIn ⟨o, h2, h3.1⟩ e (fun z => nomatch z) fin
theorem ul {X : Cx} {K : PySem.W.Frag} (h : X.K = K) : zN X (.builtin "isinstance") (Xx K) := by subst h; exact Xy
section
variable {K : PySem.W.Frag}
noncomputable def QL (n : String) (Ta : TEW) : TEW := fun ρ O R => Ta ρ O fun x O1 => match x with
  | .d d => okN n = true ∧ R (.d (.bool (isN d n))) O1
  | _ => False
theorem Uh {n : String} {ta : TE} {Ta : TEW} (h : zj K ta Ta) : zj K (tCB (Xx K) (xS ta (xS (tC (.ty n)) uD))) (QL n Ta) := by
  intro Γ O H ρ σ S r Q R hT k
  refine h _ _ _ _ _ S r _ _ hT fun Γ1 O1 H1 x v l1 S1 rx h1 => ?_
  cases x with
  | d d => exact ⟨d, v, n, rfl, Rep.same S1.z _ _ rx, h1.1, k _ _ _ _ _ l1 S1 yn h1.2⟩
  | own _ => exact h1.elim
  | row _ _ => exact h1.elim
noncomputable def Yj : TEW := fun ρ O R => R (.d (.dict [])) O
theorem Yk : zj K ZW Yj := by
  intro Γ O H ρ σ S r Q R hT k p hp
  obtain ⟨l, S'⟩ := S.newD hp (.dK [])
  exact k _ _ (upd H p (.dK [])) (.d (.dict [])) (.ref p) l S' (show Rep K _ (.dict []) (.ref p) from ⟨rfl, p, rfl, .inl ze⟩) hT
noncomputable def Zo (K : PySem.W.Frag) : R2 := fun x y H Q => ∃ l k xs, x = .ref l ∧ y = .int k ∧ SqL K H l xs ∧ -(2 ^ 63) ≤ k ∧ k < 2 ^ 63 ∧ xs.length * k.toNat ≤ sizeLine ∧
  ∀ p, H p = none → Q (.ref p) (upd H p (.lst (List.replicate k.toNat xs).flatten))
end
theorem Ui {X : Cx} : OpR X (binaryOp .Mult) (Zo X.K) := by
  intro pins s σ H x y v u Q I rx ry h
  obtain ⟨l, k, xs, rfl, rfl, hH, h1, h2, hz, q⟩ := h
  cases rx
  obtain ⟨t, rfl⟩ := ry
  obtain ⟨its, r, ⟨⟨oc, od, oda, osl⟩, n, e, c, d, dt⟩, hl⟩ := I.list hH
  simp only at c d dt
  subst c d dt
  have hl : xs.length = its.length := r.length
  have hlen : its.toArray.size * k.toNat ≤ sizeLine := by rw [List.size_toArray, ← hl]; exact hz
  have hcap : ¬ its.toArray.size * k.toNat > (2 ^ 63 - 1) / 8 := by
    have : (sizeLine : Nat) ≤ (2 ^ 63 - 1) / 8 := by decide
    omega
  have hfit : ¬ (!Builtin.List.listFitsIndex k) = true := by
    rw [fitsIndex_both h1 h2]
    exact Bool.false_ne_true
  have hlong : ¬ Builtin.List.listTooLong (its.toArray.size * k.toNat) = true := by
    rw [YQ hlen]
    exact Bool.false_ne_true
  have hnew : List.foldl (fun x1 x2 => x1 ++ x2) #[] (List.replicate (if its.toArray.isEmpty = true then 0 else k.toNat) its.toArray) = (List.replicate k.toNat its).flatten.toArray := by
    have f0 : ∀ m : Nat, List.foldl (fun x1 x2 => x1 ++ x2) #[] (List.replicate m its.toArray) = (List.replicate m its).flatten.toArray := fun m => by
      have := qo its m []
      rw [List.nil_append] at this
      exact this
    rw [f0]
    cases its with
    | nil => simp
    | cons a r' => rw [if_neg (by simp)]
  refine wpAny_binaryOp_repeat_ref (T := "list") (U := "int") (by decide) ⟨_, e, rfl⟩ (fun s' => typeIs_int s' k t) noFill_list_mul F.fills_int_mul F.slot_int_rmul repeat_list F.slot_int_index.lookup
    (call_meets F.slot_int_rmul (typeIs_int s k t) F.entry_int_rmul (F.args_int_rmul_2 _ _) (AutoListH.rmul_sl k t l its.toArray n osl)
      ⟨e, rfl, ⟨_, e, rfl⟩, call_meets F.slot_list_mul ⟨_, e, rfl⟩ F.entry_list_mul (F.args_list_mul_2 _ _) (AutoListH.list_mul_sl l its.toArray n osl k t hfit hcap hlong) ⟨e, ?_⟩⟩)
  rw [hnew]
  exact ⟨.ref _, _, I.lnew (t' := s.toks) (r.rep k.toNat) (by rw [VL, Nat.mul_comm]; exact hz), rfl, q _ I.fresh⟩
theorem Uj {X : Cx} {K : PySem.W.Frag} (h : X.K = K) : OpR X (binaryOp .Mult) (Zo K) := by subst h; exact Ui
section
variable {K : PySem.W.Frag}
noncomputable def jA (n : Int) (ds : List PyData) : List PyData := (List.replicate n.toNat ds).flatten
noncomputable def Vr : R2W := fun x y O R => ∃ ds n, vH O x = some ds ∧ yz x = none ∧ y = .d (.int n) ∧ 0 ≤ n ∧ n ≤ 1000 ∧ ds.length * n.toNat ≤ 100000 ∧ R (.d (.list (jA n ds))) O
theorem QM : RefR K (Zo K) Vr := by
  rintro Γ O H x y v u S rx ry Q R ⟨ds, n, e, et, rfl, n0, n1, hl, h⟩ k
  unfold vH at e
  rw [et] at e
  simp only at e
  cases hL : zB O x with
  | none => rw [hL] at e; cases e
  | some ws =>
    rw [hL] at e
    obtain ⟨a, vs, rfl, q1, q2⟩ := zU S rx hL
    rw [z9 (show zQ ws = some ds from e)] at q2
    have q3 := zk q2
    refine ⟨a, n, vs, rfl, ry, q1, by omega, by omega, by rw [← Reps.length q3, sizeLine_eq]; omega, fun p hp => ?_⟩
    obtain ⟨Γ', le, S', r'⟩ := vd S (jw q3 n.toNat) hp
    exact k _ _ _ _ _ le S' r' h
end
noncomputable def Uk (K : PySem.W.Frag) : V → List V → Hp → VK → Prop := fun x vs H Q => ∃ l, ∃ bs : List Bool, x = .ref l ∧ vs = [.bl true] ∧ SqL K H l (bs.map V.bl) ∧ Q (.int (bs.countP id : Nat)) H
noncomputable def Ul (K : PySem.W.Frag) : V → List V → Hp → VK → Prop := fun x vs H Q => ∃ l, ∃ bs : List Bool, ∃ j, x = .ref l ∧ vs = [.bl true] ∧ SqL K H l (bs.map V.bl) ∧ bs[j]? = some true ∧ (∀ i, i < j → bs[i]? = some false) ∧ j < 1000 ∧ Q (.int (j : Nat)) H
end L2
namespace PySem.MeetsSeq2
open AutoSeq1 (wpAny_loadPart')
open MeetsSeq
theorem vM {M : Model} {A : Around} {E : Value → Shared → Prop} {s : Shared} {β : Type} (f : Nat → β → Sem (ForInStep β)) (I : List Nat → β → Shared → Prop) (Q : β → Shared → Prop)
    (turn : ∀ x zv b s, I (x :: zv) b s → wpAny M A (f x b) (fun r s' => match r with | .yield b' => I zv b' s' | .done b' => Q b' s') E s)
    (fin : ∀ b s, I [] b s → Q b s) (n : Nat) (b : β) (h : I (List.range' 0 n) b s) : wpAny M A (forIn [:n] b f) Q E s := by
  rw [Std.Legacy.Range.forIn_eq_forIn_range']
  simp only [Std.Legacy.Range.size, Nat.sub_zero, Nat.add_sub_cancel, Nat.div_one]
  exact wpAny_forIn_list f I Q turn fin _ b h
theorem tuple_index_sl (l : Addr) (items : Array Value) (n : Nat) (dd : Option Addr) (sl : Array (Option Value)) (x : Value) (e : Value → Bool) (he : ∀ y, y ∈ items → EqGives y x (e y)) (j : Nat) (hj : j < items.size) (hit : e items[j] = true) (hno : ∀ m (hm : m < items.size), m < j → e items[m] = false) :
    Meets (Builtin.«tuple.index» ⟨[.ref l, x], []⟩)
      (fun _ R s => s.heap.get? l = some { cls := .type "tuple", dict := dd, data := .seq items n, slots := sl } ∧ R (.ok (.ret (.int j s.toks))) { s with toks := s.toks + 1 }) :=
  .of_wp fun prog w A R s h => by
    obtain ⟨hp, g, d, tk, os⟩ := s; obtain ⟨hl, h⟩ := h
    wp_walk using wpAny_loadPart' hl, vM _ (fun zv b s' => b.1 = none ∧ s' = ⟨hp, g, d, tk, os⟩ ∧ ∃ i, i ≤ j ∧ zv = List.range' i (items.size - i)) _
    case turn =>
      rintro m zv b s' ⟨hb, rfl, i, hij, hr⟩
      have hlt : i < items.size := by omega
      obtain ⟨rfl, hrest⟩ : m = i ∧ zv = List.range' (i + 1) (items.size - (i + 1)) := by
        have e : items.size - i = (items.size - (i + 1)) + 1 := by omega
        rw [e, List.range'_succ] at hr
        injection hr with h1 h2
        exact ⟨h1, h2⟩
      rw [Array.getElem?_eq_getElem hlt]
      refine wpAny_bind (he _ (Array.getElem_mem hlt) prog w _ _ _ _ ?_)
      by_cases hmj : m = j
      · subst hmj
        rw [hit, if_pos rfl]
        wp_walk
        exact ⟨_, rfl, h⟩
      · rw [hno m hlt (by omega), if_neg (by decide)]
        exact wpAny_pure ⟨rfl, rfl, m + 1, by omega, hrest⟩
    case fin =>
      rintro b s' ⟨hb, rfl, i, hij, hr⟩
      have e : items.size - i = (items.size - (i + 1)) + 1 := by omega
      rw [e, List.range'_succ] at hr
      cases hr
    case h =>
      exact ⟨rfl, rfl, 0, Nat.zero_le _, by simp⟩
end PySem.MeetsSeq2
namespace L2
open PySem PySem.Spec PyProof.Rows
noncomputable abbrev DSp (kvs : List (Str × Value)) (D : List (Str × Int)) : Prop := Paired (fun (p : Str × Value) (q : Str × Int) => p.1 = q.1 ∧ ∃ t, p.2 = .int q.2 t) kvs D
structure DS (P : Program) (w : World) (K : PySem.W.Frag) (a : Addr) (D : List (Str × Int)) : Prop where
  ns : (a == sysModules) = false
  ex : ∃ (kvs : List (Str × Value)) (ep : Nat), (∀ h : Heap, K.In h → h.DictAt (strKind P w) a kvs ep) ∧ DSp kvs D
theorem jB : ∀ {kvs : List (Str × Value)} {D : List (Str × Int)}, PyProof.V.FlatPairs PyData.str kvs ((D.map fun p => (p.1, PyData.int p.2)).map fun p => (PyData.str p.1, p.2)) → DSp kvs D
  | _, [], h => by
    cases h
    exact .nil
  | _, (y, i) :: D, h => by
    simp only [List.map_cons] at h
    cases h with
    | cons hf ht =>
      refine .cons ⟨rfl, ?_⟩ (jB ht)
      cases hf (default : Heap) with
      | int _ t => exact ⟨t, rfl⟩
theorem DS.of {P : Program} {w : World} {K : PySem.W.Frag} {a : Addr} {D : List (Str × Int)} (hl : KTD.tabLook KTD.flatLooks (fun b => K.lookup b) a (D.map fun p => (p.1, PyData.int p.2)) = true)
    (hn : ((D.map fun p => (p.1, PyData.int p.2)).map (·.1)).Nodup) (hh : KTD.hashesOf (fun b => K.lookup b) a = (D.map fun p => (p.1, PyData.int p.2)).map fun p => (strKind P w).hash p.1) : DS P w K a D := by
  simp only [KTD.tabLook, Bool.and_eq_true] at hl
  obtain ⟨h0, hl⟩ := hl
  split at hl
  · rename_i o ho
    simp only [Bool.and_eq_true] at hl
    obtain ⟨⟨⟨e1, e2⟩, e3⟩, e4⟩ := hl
    split at e4
    · rename_i es ep hd
      have hh' : es.toList.map (·.hash) = (D.map fun p => (p.1, PyData.int p.2)).map fun p => (strKind P w).hash p.1 := by
        rw [← hh]; unfold KTD.hashesOf; simp only [ho, hd]
      obtain ⟨hk, kvs, hp, hf, hm⟩ := KTD.strs_of_rows P w (KTD.rows_of_look (fun _ _ x => KTD.flat_of_looks x) e4) hh'
      exact ⟨by simpa using h0, kvs, ep, fun h X => ⟨o, es, X _ _ ho, ⟨beq_iff_eq.mp e1, by simpa using e2, by simpa using e3⟩, hd, fun e he => hk e (by simpa using he), hp, by rw [hm]; exact hn⟩, jB hf⟩
    · cases e4
  · cases hl
noncomputable def yr (D : List (Str × Int)) (k : Str) : Option Int := match D with
  | [] => none
  | (i, d) :: r => if i = k then some d else yr r k
theorem kz : ∀ {kvs : List (Str × Value)} {D : List (Str × Int)} (k : Str), DSp kvs D → (∃ t i, yr D k = some i ∧ valueAt kvs k = some (.int i t)) ∨ (yr D k = none ∧ valueAt kvs k = none)
  | [], _, k, h => by
    cases h
    exact .inr ⟨rfl, rfl⟩
  | (x, v) :: kvs, _, k, h => by
    cases h with
    | cons a b =>
      rename_i q D
      obtain ⟨y, i⟩ := q
      obtain ⟨e1, t, e2⟩ := a
      simp only at e1 e2
      subst e1 e2
      by_cases hk : x = k
      · exact .inl ⟨t, i, by simp [yr, hk], by simp [valueAt, hk]⟩
      · have := kz k b
        rcases this with ⟨t', i', q1, q2⟩ | ⟨q1, q2⟩
        · exact .inl ⟨t', i', by simp [yr, hk, q1], by simpa [valueAt, hk] using q2⟩
        · exact .inr ⟨by simp [yr, hk, q1], by simpa [valueAt, hk] using q2⟩
noncomputable def Zp (P : Program) (w : World) (K : PySem.W.Frag) (to : TE) (t : TA) : TE := fun σ H Q => to σ H fun x H1 => ∃ a D, x = .ref a ∧ DS P w K a D ∧ t σ H1 fun xs H2 => ∃ z d, xs = [.str z, .int d] ∧ Q (.int ((yr D z).getD d)) H2
theorem Um {X : Cx} {o e : Expr} {es : List Expr} {to : TE} {t : TA} {apos cpos : Pos} (ho : PE X o to) (ha : PA X (e :: es) t)
    (hbase : attributeBase o "get" X.env (eval o X.env) = eval o X.env := by rfl)
    (hfew : ((backTo cpos (starEach (e :: es) X.env)).all (fun x => !x.1) && (backToKw cpos (keywordEach [] X.env)).all (fun x => x.1.isSome)
      && decide ((e :: es).length + ([] : List Keyword).length + (if ([] : List Keyword).isEmpty then 0 else 1) < 30)) = true := by rfl)
    (hline : (apos.endLine == cpos.line) = true := by rfl) (hs : starEach (e :: es) X.env = (false, eval e X.env) :: starEach es X.env := by rfl) (hplain : (backTo cpos (starEach es X.env)).any (·.1) = false := by rfl) :
    PE X (.Call (.Attribute o "get" apos) (e :: es) [] cpos) (Zp X.prog X.w X.K to t) := by
  intro pins s σ H Q I h
  refine wpAny_Call_method_late hbase hfew hline rfl (thn (ho pins s σ H _ I h) fun v s1 ⟨x, H1, I1, r1, a, D, ex, hD, q1⟩ => ?_)
  subst ex
  cases r1
  obtain ⟨kvs, ep, hat, hp⟩ := hD.ex
  obtain ⟨ob, bs, hob, hc, _⟩ := hat s1.heap I1.kIn
  refine ⟨"dict", "dict.get", PySem.F.plainAttrs_dict, PySem.F.slot_dict_get, PySem.F.type_dict_get, ⟨ob, hob, hc.1⟩, fun b e => by injection e with e; subst e; exact ⟨ob, hob, hc.2.1⟩, ?_⟩
  have hA := ha cpos pins s1 σ H1 _ I1 q1
  rw [hs] at hA ⊢
  refine Calls.callWith_builtin (by show (false || (backTo cpos (starEach es X.env)).any (·.1)) = false; rw [hplain] <;> rfl) (Calls.evalArgs_plain ?_)
  refine thn hA fun us s2 ⟨vs, H2, I2, r2, z, d, ev, q2⟩ => ?_
  subst ev
  obtain ⟨u1, u2, rfl, h1, h2⟩ := r2.two
  obtain ⟨t1, rfl⟩ := h1
  obtain ⟨t2, rfl⟩ := h2
  have dd := hat s2.heap I2.kIn
  have dof : s2.heap.DictOf (strKind X.prog X.w) a kvs := by
    obtain ⟨o, es, q⟩ := dd
    exact ⟨o, es, ep, q⟩
  refine call_meetsIn PySem.F.slot_dict_get dof.typeIs PySem.F.entry_dict_get (PySem.F.args_dict_get_3 _ _ _) (meets_dict_get_default (knd := strKind X.prog X.w) (d := a) (k := z) (strKind_is X.prog X.w z t1) hD.ns (.int d t2)) ⟨_, dof.mapOf, ?_⟩
  rcases kz z hp with ⟨t', i, e1, e2⟩ | ⟨e1, e2⟩
  · rw [e1] at q2
    exact ⟨.int i, H2, I2.tok _, ⟨t', by show Option.getD (valueAt kvs z) _ = _; rw [e2]; rfl⟩, q2⟩
  · rw [e1] at q2
    exact ⟨.int d, H2, I2.tok _, ⟨t2, by show Option.getD (valueAt kvs z) _ = _; rw [e2]; rfl⟩, q2⟩
noncomputable def Iti (D : List (Str × Int)) : It :=
  ⟨fun i _ => i < D.length,
   fun i H v H' => ∃ t p, v = .ref t ∧ H t = none ∧ D[i]? = some p ∧ H' = upd H t (.tup [.str p.1, .int p.2]),
   fun i _ => D.length ≤ i⟩
theorem Zq {P : Program} {w : World} {K : PySem.W.Frag} {es : List Expr} {k : Nat} {pos : Pos} {a n ep : Nat} {D : List (Str × Int)} {kvs : List (Str × Value)} (hat : ∀ h : Heap, K.In h → h.DictAt (strKind P w) a kvs ep) (hp : DSp kvs D) :
    Turn P w K (.Tuple es k pos) (Iti D) [n] n (fun i h => ∃ ok ov, IsItemIter h n a i kvs.length ep ok ov) where
  mem := by simp
  obj := fun i h st c hc => by
    obtain ⟨ok, ov, hz⟩ := st
    cases List.mem_singleton.1 hc
    exact ⟨_, hz, fun v z => by
      have z' : Data.fields _ = Data.cell v := z
      cases z'⟩
  keep := fun i h h' st k => by
    obtain ⟨ok, ov, hz⟩ := st
    exact ⟨ok, ov, k _ (by simp) _ hz⟩
  item := by
    intro X hP hw hK hc i pins s σ H E I hf st hg
    subst hP hw hK
    obtain ⟨ok, ov, hz⟩ := st
    have hg' : i < D.length := hg
    obtain ⟨q, hq, e1, t, e2⟩ := Paired.getQ hp (List.getElem?_eq_getElem hg')
    obtain ⟨qk, qv⟩ := q
    simp only at e1 e2
    subst e2
    have hm := hat s.heap I.kIn
    refine wpAny_pyNext_items_item hz hm hq fun key h' hkey hz' hp' hsz kk => ?_
    obtain ⟨tk, rfl⟩ := Value.isStrOf_shape hkey
    refine ⟨_, rfl, wpAny_letOwnedTupleGo_items hz' fun h3 z3 sb => ?_⟩
    have hn := I.hok.fresh (Nat.le_refl s.heap.objs.size)
    have I1 : Inv X pins σ (upd H s.heap.objs.size (.tup [.str qk, .int D[i].2])) { s with heap := s.heap.push { cls := .type "tuple", data := .seq [Value.str qk tk, Value.int D[i].2 t].toArray }, toks := s.toks } :=
      I.laid (t' := s.toks) (fun b o e => Heap.get?_push_of_some _ e) (Nat.le_refl _) ⟨by show 2 ≤ sizeLine; decide, [Value.str qk tk, Value.int D[i].2 t], .cons ⟨tk, rfl⟩ (.cons ⟨t, rfl⟩ .nil), IsTup.new s.heap _⟩
    have ln : n ≠ s.heap.objs.size := Nat.ne_of_lt (Heap.lt_size hz)
    have I2 := I1.turnedL (h' := h3) (t' := s.toks) (fp := [n]) (fun c o hc q => by
      have c0 : c ≠ n := fun z => hc (by simp [z])
      by_cases hcz : c = s.heap.objs.size
      · subst hcz
        have q' : (s.heap.push { cls := .type "tuple", data := .seq #[Value.str qk tk, Value.int D[i].2 t] }).get? s.heap.objs.size = some o := q
        rw [Heap.get?_push_size s.heap (o := { cls := .type "tuple", data := .seq #[Value.str qk tk, Value.int D[i].2 t] }) rfl] at q'
        exact (sb.2 _ c0).trans (hp'.trans q')
      · have q' : (s.heap.push { cls := .type "tuple", data := .seq #[Value.str qk tk, Value.int D[i].2 t] }).get? c = some o := q
        rw [Heap.get?_push_ne _ _ _ hcz] at q'
        exact (sb.2 c c0).trans (kk c o c0 q')) fun c hc => by
          cases List.mem_singleton.1 hc
          exact ⟨by rw [za ln]; exact (hf n (by simp)).1, (hf n (by simp)).2⟩
    refine ⟨.ref s.heap.objs.size, _, I2, rfl, ⟨_, D[i], rfl, hn, List.getElem?_eq_getElem hg', by rw [e1]⟩, ⟨_, _, z3⟩, fun c hc => by
      cases List.mem_singleton.1 hc
      rw [za ln]
      exact (hf n (by simp)).1⟩
  done := by
    intro X hP hw hK hc i pins s σ H E I hf st hg
    subst hP hw hK
    obtain ⟨ok, ov, hz⟩ := st
    have hg' : D.length ≤ i := hg
    have hm := hat s.heap I.kIn
    refine wpAny_pyNext_items_end (I.ok.hd hc) hz hm (List.getElem?_eq_none (by rw [Paired.length hp]; exact hg')) fun h' kk => ⟨rfl, I.turnedL (t' := s.toks) (fp := [n]) (fun c o hc e => kk c o (fun z => hc (by simp [z])) e) hf⟩
  self := fun _ _ _ _ _ st h => by
    obtain ⟨ok, ov, hz⟩ := st
    exact PySem.W.kcp_self hz h
noncomputable def jC (P : Program) (w : World) (K : PySem.W.Frag) (to : TE) : TI := fun σ H R => to σ H fun x H1 => ∃ a D, x = .ref a ∧ DS P w K a D ∧ R (Iti D) H1
theorem Xz {X : Cx} {es : List Expr} {k : Nat} {tp : Pos} {o : Expr} {to : TE} {apos cpos : Pos} (ho : PE X o to) (hbase : attributeBase o "items" X.env (eval o X.env) = eval o X.env := by rfl) (hline : (apos.endLine == cpos.line) = true := by rfl) :
    PI X (.Tuple es k tp) (.Call (.Attribute o "items" apos) [] [] cpos) (jC X.prog X.w X.K to) := by
  intro pins s σ H R I h
  refine wpAny_Call_method0_late hbase hline (thn (ho pins s σ H _ I h) fun v s1 ⟨x, H1, I1, r1, a, D, ex, hD, q⟩ => ?_)
  subst ex
  cases r1
  obtain ⟨kvs, ep, hat, hp⟩ := hD.ex
  have dd := hat s1.heap I1.kIn
  obtain ⟨ob, bs, hob, hc, hrest⟩ := id dd
  have dof : s1.heap.DictOf (strKind X.prog X.w) a kvs := ⟨ob, bs, ep, hob, hc, hrest⟩
  refine ⟨"dict", "dict.items", PySem.F.plainAttrs_dict, PySem.F.slot_dict_items, PySem.F.type_dict_items, ⟨ob, hob, hc.1⟩, fun b e => by injection e with e; subst e; exact ⟨ob, hob, hc.2.1⟩, Calls.callWith_builtin rfl (PySem.evalArgs_none ?_)⟩
  refine call_meetsIn PySem.F.slot_dict_items dof.typeIs PySem.F.entry_dict_items (PySem.F.args_dict_items_1 _) (meets_dict_items (strKind X.prog X.w) a hD.ns) ⟨⟨kvs, dof⟩, ?_⟩
  have hv : (s1.heap.push { cls := .type "dict_items", data := .fields #[.ref a] }).IsItemsView s1.heap.objs.size a := ⟨_, Heap.get?_push_size _ rfl, rfl, rfl⟩
  have k1 : ∀ b o, s1.heap.get? b = some o → (s1.heap.push { cls := .type "dict_items", data := .fields #[.ref a] }).get? b = some o := fun b o e => Heap.get?_push_of_some _ e
  have I2 : Inv X pins σ H1 { s1 with heap := s1.heap.push { cls := .type "dict_items", data := .fields #[.ref a] } } := I1.kept (t' := s1.toks) k1
  refine wpAny_pyIter_items (knd := strKind X.prog X.w) hv (hat _ I2.kIn) ?_
  refine ⟨_, [(s1.heap.push { cls := .type "dict_items", data := .fields #[.ref a] }).objs.size], _, _, H1, rfl, I2.kept (t' := s1.toks) fun b o e => Heap.get?_push_of_some _ e, Zq (ep := ep) hat hp, ⟨.none, .none, Heap.get?_push_size _ rfl⟩, fun c hc => ?_, q⟩
  cases List.mem_singleton.1 hc
  exact I2.fpOk (Nat.le_refl _) (I2.hok.fresh (Nat.le_refl _))
section
variable {K : PySem.W.Frag} {P : Program} {w : World}
noncomputable def Yl (P : Program) (w : World) (K : PySem.W.Frag) (To : TEW) : TIW := fun ρ O R => To ρ O fun x O1 => ∃ a D, x = .own a ∧ DS P w K a D ∧ R (D.map fun p => W.d (.tuple [.str p.1, .int p.2])) (fun _ => True) O1
theorem Zr {to : TE} {To : TEW} (h : zj K to To) : vJ K (jC P w K to) (Yl P w K To) := by
  intro Γ O H ρ σ S r Q R hT k
  refine h _ _ _ _ _ S r _ _ hT fun Γ1 O1 H1 x v l1 S1 r1 h1 => ?_
  obtain ⟨a, D, rfl, hD, h1⟩ := h1
  refine ⟨a, D, r1, hD, k _ _ _ _ _ _ l1 S1 (fun i Γ' O' H' hz hg S' e' => ⟨fun w' hw => ?_, fun hi => ?_⟩) h1⟩
  · rw [List.getElem?_map] at hw
    cases hd : D[i]? with
    | none => rw [hd] at hw; cases hw
    | some p =>
      rw [hd] at hw
      cases hw
      refine ⟨(List.getElem?_eq_some_iff.mp hd).1, fun y H2 ⟨t, p', e1, e2, e3, e4⟩ => ?_⟩
      rw [hd] at e3
      cases e3
      subst e1 e4
      obtain ⟨Γ2, l2, S2, r2⟩ := ZZ S' (ds := [.str p.1, .int p.2]) (vs := [.str p.1, .int p.2]) ⟨_, _, rfl, rfl, _, _, rfl, rfl, rfl⟩ e2
      exact ⟨Γ2, l2, S2, r2⟩
  · show D.length ≤ i
    rw [hi, List.length_map]
    exact Nat.le_refl _
noncomputable def Vs (P : Program) (w : World) (K : PySem.W.Frag) (To : TEW) (T : TAW) : TEW := fun ρ O R => To ρ O fun x O1 => ∃ a D, x = .own a ∧ DS P w K a D ∧ T ρ O1 fun ws O2 => ∃ z d, ws = [.d (.str z), .d (.int d)] ∧ R (.d (.int ((yr D z).getD d))) O2
theorem XA {to : TE} {t : TA} {To : TEW} {T : TAW} (ho : zj K to To) (h : zY K t T) : zj K (Zp P w K to t) (Vs P w K To T) := by
  intro Γ O H ρ σ S r Q R hT k
  refine ho _ _ _ _ _ S r _ _ hT fun Γ1 O1 H1 x v l1 S1 rx h1 => ?_
  obtain ⟨a, D, rfl, hd, h1⟩ := h1
  refine ⟨a, D, rx, hd, h _ _ _ _ _ S1 (r.mono l1) _ _ h1 fun Γ2 O2 H2 ws vs l2 S2 rs h2 => ?_⟩
  obtain ⟨z, d, rfl, h2⟩ := h2
  cases rs with
  | cons rx t => cases t with
    | cons ry t =>
      cases t
      exact ⟨z, d, by rw [show _ = V.str z from rx, show _ = V.int d from ry], k _ _ _ _ _ (l1.trans l2) S2 yu h2⟩
theorem um {i : Int} (h0 : 0 ≤ i) (h1 : i ≤ 1000000) : i.natAbs.log2 < 1920 := by
  by_cases hz : i.natAbs = 0
  · rw [hz]
    decide
  · refine (Nat.log2_lt hz).2 ?_
    have : i.natAbs ≤ 1000000 := by omega
    exact Nat.lt_of_le_of_lt this (Nat.lt_of_lt_of_le (show 1000000 < 2 ^ 20 by decide) (Nat.pow_le_pow_right (n := 2) (by decide) (show 20 ≤ 1920 by decide)))
noncomputable def Vt : List V → Hp → VK → Prop := fun xs H Q => ∃ i, xs = [.int i] ∧ i.natAbs.log2 < 1920 ∧ Q (.str (toString i)) H
noncomputable def Vu : List W → OM → WK → Prop := fun xs O R => ∃ i : Int, xs = [.d (.int i)] ∧ 0 ≤ i ∧ i ≤ 1000000 ∧ R (.d (.str (toString i))) O
theorem QN : RefC K Vt Vu := by
  rintro Γ O H xs vs S rs Q R ⟨i, rfl, h0, h1, h⟩ k
  cases rs with
  | cons rx t =>
    cases t
    refine ⟨i, by rw [show _ = V.int i from rx], ?_, k _ _ _ _ _ (Le.refl _) S y7 h⟩
    exact um h0 h1
end
theorem qB {X : Cx} : zN X (.type "str") Vt := jb
noncomputable def kA (K : PySem.W.Frag) : V → List V → Hp → VK → Prop := fun x vs H Q => ∃ a, ∃ ws : List Str, ∃ z j, x = .ref a ∧ vs = [.str z] ∧ SqT K H a (ws.map V.str) ∧ ws[j]? = some z ∧ (∀ i, i < j → ws[i]? ≠ some z) ∧ Q (.int (j : Nat)) H
theorem xU : ∀ {ws : List Str} {its : List Value}, Vals (ws.map V.str) its → ∀ (i : Nat) (z : Str), ws[i]? = some z → ∃ t, its[i]? = some (Value.str z t)
  | [], _, _, i, z, e => by cases e
  | w :: ws, _, .cons a t, i, z, e => by
    cases i with
    | zero =>
      cases e
      obtain ⟨t, rfl⟩ := a
      exact ⟨t, rfl⟩
    | succ i => exact xU t i z e
noncomputable def Zs (z : Str) : Value → Bool
  | .str y _ => y == z
  | _ => false
theorem Ym {X : Cx} : MtR X "tuple.index" (kA X.K) := by
  intro pins s σ H x xs v us Q I rx r h
  obtain ⟨a, ws, z, j, rfl, rfl, hq, hj, hno, q⟩ := h
  cases rx
  obtain ⟨u, rfl, tz, rfl⟩ := yW r
  obtain ⟨its, rv, ⟨⟨oc, od, oda, osl⟩, e, c, n, dt⟩, _⟩ := I.tuple hq
  simp only at c dt
  subst c dt
  obtain ⟨tj, hij⟩ := xU rv j z hj
  obtain ⟨hlt, hv⟩ := List.getElem?_eq_some_iff.mp hij
  have hw : ∀ (m : Nat) (hm : m < its.length), ∃ y t, ws[m]? = some y ∧ its[m] = Value.str y t := fun m hm => by
    have hl := rv.length
    rw [List.length_map] at hl
    have hm' : m < ws.length := by omega
    obtain ⟨t, ht⟩ := xU rv m _ (List.getElem?_eq_getElem hm')
    exact ⟨_, t, List.getElem?_eq_getElem hm', (List.getElem?_eq_some_iff.mp ht).2⟩
  refine call_meets F.slot_tuple_index ⟨_, e, rfl⟩ F.entry_tuple_index (F.args_tuple_index_2 _ _) (MeetsSeq2.tuple_index_sl a _ n od osl (.str z tz) (Zs z) (fun y hy => ?_) j (by simpa using hlt) (by simp [hv, Zs]) (fun m hm hmj => ?_)) ⟨e, ?_⟩
  · have hy' : y ∈ its := by simpa using hy
    obtain ⟨m, hm, rfl⟩ := List.mem_iff_getElem.1 hy'
    obtain ⟨y, t, _, e2⟩ := hw m hm
    rw [e2]
    exact PyProof.Rows.eqGives_str y z t tz
  · obtain ⟨y, t, e1, e2⟩ := hw m (by simpa using hm)
    have := hno m hmj
    rw [e1] at this
    simp only [List.getElem_toArray, e2, Zs, beq_eq_false_iff_ne]
    exact fun e => this (by rw [e])
  · exact ⟨.int (j : Nat), H, I.tok _, ⟨_, rfl⟩, q⟩
section
variable {K : PySem.W.Frag}
end
noncomputable def uV : V → Option Str
  | .str z => if z.length ≤ 1000 then some z else none
  | .int i => if 0 ≤ i ∧ i ≤ 1000000 then some (toString i) else none
  | _ => none
noncomputable def QO (ta : TE) (z : Str) (tb : TE) : TE := fun σ H Q => ta σ H fun x H1 => ∃ s1, uV x = some s1 ∧ s1.length ≤ 1000 ∧ tb σ H1 fun y H2 => ∃ s2, uV y = some s2 ∧ s2.length ≤ 1000 ∧ Q (.str (((Str.empty ++ s1) ++ z) ++ s2)) H2
theorem Yn {X : Cx} {pins : List (Addr × Obj)} {s : Shared} {σ : St} {H : Hp} {x : V} {v : Value} {y : Str} {Q : Value → Shared → Prop} (I : Inv X pins σ H s) (r : RelV x v) (e : uV x = some y) (h : ∀ t s', Inv X pins σ H s' → Q (.str y t) s') : wpAny (model X.prog X.w) X.A (formatField v Str.empty) Q X.xe s := by
  cases x with
  | str z =>
    obtain ⟨t, rfl⟩ := r
    simp only [uV] at e
    split at e
    · rename_i hz
      cases e
      exact formatField_str (fun t' tk => h t' _ (I.tok tk)) (by rw [sizeLine_eq]; omega)
    · cases e
  | int i =>
    obtain ⟨t, rfl⟩ := r
    simp only [uV] at e
    split at e
    · rename_i hz
      cases e
      exact formatField_int_small (um hz.1 hz.2) (h _ _ (I.tok _))
    · cases e
  | _ => cases e
theorem QP {X : Cx} {a b : Expr} {z : Str} {k : Nat} {p1 p2 p3 pos : Pos} {ta tb : TE} (ha : PE X a ta) (hb : PE X b tb) (hz : z.length ≤ 1000) : PE X (.JoinedStr [.FormattedValue a (-1) none p1, .Constant (.str z) k p2, .FormattedValue b (-1) none p3] pos) (QO ta z tb) := by
  intro pins s σ H Q I h
  refine JoinedStr_many (joinParts_cons (FormattedValue_plain (thn (ha pins s σ H _ I h) fun v s1 ⟨x, H1, I1, r1, s1', e1, l1, q1⟩ => Yn I1 r1 e1 fun t s2 I2 => ?_)))
  have len : ∀ a b : Str, (a ++ b).length = a.length + b.length := strLen_append
  have le0 : Str.empty.length = 0 := rfl
  refine ⟨by rw [len, le0, sizeLine_eq]; omega, ?_⟩
  refine joinParts_cons (thn (zn (X := X) (x := z) pins s2 σ H1 (fun v H' => v = .str z ∧ H' = H1) I2 ⟨rfl, rfl⟩) fun v s3 ⟨x', H', I3, r3, ex, eH⟩ => ?_)
  subst ex eH
  obtain ⟨t3, rfl⟩ := r3
  refine ⟨by rw [len, len, le0, sizeLine_eq]; omega, ?_⟩
  refine joinParts_cons (FormattedValue_plain (thn (hb pins s3 σ H' _ I3 q1) fun v s4 ⟨y, H2, I4, r4, s2', e2, l2, q2⟩ => Yn I4 r4 e2 fun t s5 I5 => ?_))
  refine ⟨by rw [len, len, len, le0, sizeLine_eq]; omega, ?_⟩
  exact joinParts_nil ⟨.str _, H2, I5.tok _, ⟨_, rfl⟩, q2⟩ (by rw [len, len, len, le0, sizeLine_eq]; omega)
section
variable {K : PySem.W.Frag}
noncomputable def Zt : W → Option Str
  | .d (.str z) => if z.length ≤ 1000 then some z else none
  | .d (.int i) => if 0 ≤ i ∧ i ≤ 1000000 then some (toString i) else none
  | _ => none
theorem Yo {Γ : Gh} {x : W} {v : V} {y : Str} (r : relW K Γ x v) (e : Zt x = some y) : uV v = some y := by
  cases x with
  | d d =>
    cases d with
    | str z => rw [show v = V.str z from r]; exact e
    | int z => rw [show v = V.int z from r]; exact e
    | _ => cases e
  | own _ => cases e
  | row _ _ => cases e
noncomputable def XB (Ta : TEW) (z : Str) (Tb : TEW) : TEW := fun ρ O R => Ta ρ O fun x O1 => ∃ s1, Zt x = some s1 ∧ s1.length ≤ 1000 ∧ Tb ρ O1 fun y O2 => ∃ s2, Zt y = some s2 ∧ s2.length ≤ 1000 ∧ R (.d (.str (((Str.empty ++ s1) ++ z) ++ s2))) O2
theorem Uo {ta tb : TE} {Ta Tb : TEW} {z : Str} (ha : zj K ta Ta) (hb : zj K tb Tb) : zj K (QO ta z tb) (XB Ta z Tb) := by
  intro Γ O H ρ σ S r Q R hT k
  refine ha _ _ _ _ _ S r _ _ hT fun Γ1 O1 H1 x v l1 S1 rx h1 => ?_
  obtain ⟨s1, e1, n1, h1⟩ := h1
  refine ⟨s1, Yo rx e1, n1, hb _ _ _ _ _ S1 (r.mono l1) _ _ h1 fun Γ2 O2 H2 y u l2 S2 ry h2 => ?_⟩
  obtain ⟨s2, e2, n2, h2⟩ := h2
  exact ⟨s2, Yo ry e2, n2, k _ _ _ _ _ (l1.trans l2) S2 y7 h2⟩
end
end L2
namespace L2
open PySem PySem.W PySem.Spec PySem.Calls PyProof.Rows
structure RoomE (k : Nat) (A : Around) : Prop where
  dp : A.depth + 3 * k + 5 < recursionLimit
  un : A.units + 16 * k + 200 < cLine
  gd : A.guards = some []
theorem Room.e {k : Nat} {A : Around} (r : Room k A) : RoomE k A := ⟨r.dp, r.un, r.gd⟩
theorem RoomE.mono {j k : Nat} {A : Around} (r : RoomE k A) (h : j ≤ k) : RoomE j A := ⟨by have := r.dp; omega, by have := r.un; omega, r.gd⟩
theorem RoomE.deeper {k : Nat} {A : Around} (r : RoomE (k + 1) A) (env : Env) : RoomE k (A.deeper env) :=
  ⟨by have := r.dp; show A.depth + 1 + 3 * k + 5 < _; omega, by have := r.un; show A.units + 3 + 16 * k + 200 < _; omega, r.gd⟩
structure FnOkE (P : Program) (w : World) (K : PySem.W.Frag) (mg : Str → Option Value) (base : Heap) (k : Nat) (f : Addr) (fd : FuncData) (ps : List Str) (C : Addr) (sp : Addr → Sp) : Prop where
  len : ∀ e vs H Q E, sp e vs H Q E → vs.length = ps.length
  run : ∀ (A : Around) (outer : List Env) (s : Shared) (H : Hp) (args : Args) (us : List Value) (vs : List V) (Q : VK) (e : Addr) (oe : Obj), RoomE k A → Env0 P w K mg base A outer s H → BindsTo s fd args (ps.zip us) → Vals vs us →
    s.heap.get? e = some oe → (oe.cls = .ref C ∧ oe.dict = none) → (∃ fs, oe.data = .fields fs) → H e = none → e ∉ frs outer → sp e vs H Q (fun _ _ _ => False) →
    codeAny (model P w) A (.call (.ref f) args) (CR CX0 outer P w H s Q (fun _ _ _ => False)) s
noncomputable abbrev cxOfE (P : Program) (w : World) (K : PySem.W.Frag) (mg : Str → Option Value) (base : Heap) (N : List Str) (qual : Str) (scope : Scope) (f : Addr) (cd : Value) (A : Around) (outer : List Env) (s : Shared) (H : Hp) (e : Addr) (oe : Obj) : Cx :=
  { cxOf CX0 P w K mg base N qual scope f cd A outer s H (fun _ _ _ => False) with A := A.deeper (envOfC qual scope s.heap.objs.size f cd), calm := false, pn := [(e, oe)], xe := fun _ _ => False }
theorem QQ {P : Program} {w : World} {K : PySem.W.Frag} {mg : Str → Option Value} {base : Heap} {k : Nat} {f : Addr} {name qual : Str} {params : Arguments} {body : List Stmt} {scope : Scope} {dV kV doc pm cdv ct oc : Value} {an od : Option Addr}
    {osl : Array (Option Value)} {N ps : List Str} {C : Addr} {sp : Addr → Sp} (lk : K.lookup f = some ⟨oc, od, .func (PySem.W.fnOf name qual params body scope dV kV doc pm an cdv ct), osl⟩) (hcd : PySem.W.codeIn K cdv qual = true) (S : FnScope N ps scope)
    (len : ∀ e vs H Q E, sp e vs H Q E → vs.length = ps.length)
    (hbody : ∀ (A : Around) (outer : List Env) (s : Shared) (H : Hp) (vs : List V) (Q : VK) (e : Addr) (oe : Obj), RoomE k (A.deeper (envOfC qual scope s.heap.objs.size f cdv)) → (oe.cls = .ref C ∧ oe.dict = none) → (∃ fs, oe.data = .fields fs) → sp e vs H Q (fun _ _ _ => False) →
      ∃ t, PSs (cxOfE P w K mg base N qual scope f cdv A outer s H e oe) body t ∧ t { nx := fun _ H' => Q .non H', rt := Q } (L2.start N vs) H) :
    FnOkE P w K mg base (k + 1) f (PySem.W.fnOf name qual params body scope dV kV doc pm an cdv ct) ps C sp := by
  refine ⟨len, fun A outer s H args us vs Q e oe hr e0 hb r he hc hfd hn hfr hsp => ?_⟩
  have hl := len _ _ _ _ _ hsp
  have KX : K.In s.heap := e0.mod.kin.keeps fun b o e => (e0.bs b o e).1
  have lim : s.heap.NoLimit := e0.mod.nolimit.keeps fun b o e => (e0.bs b o e).1
  have hkind : ∀ y ∈ ps.zip us, scope.names.lookup y.1 = some .local ∨ (scope.names.lookup y.1 = some .cell ∧ ((cellsFrom (s.heap.objs.size + 1) scope.names []).lookup y.1).isSome = true) := fun ⟨n, v⟩ hy => by
    rcases S.par n (List.of_mem_zip hy).1 with q | q
    · exact .inl q
    · exact .inr ⟨q, PySem.W.cellsFrom_some _ _ _ (.inl q)⟩
  refine codeAny_call_function (by have := hr.dp; omega) (KX _ _ lk) rfl S.co S.gen rfl (PySem.W.codeRec_of KX hcd) (hb _ _ _ _ ?_)
  refine wpAny_newFunctionEnv_cells S.kind hkind fun env hen s1 x => ?_
  subst hen
  refine ⟨lim.keeps x.toInCall.keep, codeAny_func ?_⟩
  obtain ⟨t, ht, hq⟩ := hbody A outer s H vs Q e oe (hr.deeper _) hc hfd hsp
  have e1 : Env0 P w K mg base { A with handled := none } outer s H := ⟨e0.frames, e0.mod, e0.bs, e0.bsz, e0.funs, e0.frf, e0.hok, e0.bare⟩
  have I0 : Inv (cxOf CX0 P w K mg base N qual scope f cdv { A with handled := none } outer s H (fun _ _ _ => False)) [] (L2.start N vs) H s1 := qm S rfl e1 hl r x
  have I : Inv (cxOfE P w K mg base N qual scope f cdv A outer s H e oe) [] (L2.start N vs) H s1 := by
    have lt : e < s.heap.objs.size := Heap.lt_size he
    refine ⟨⟨I0.ok.mod, I0.ok.kind, I0.ok.glob, I0.ok.blt, I0.ok.above, I0.ok.inj, I0.ok.has, I0.ok.cab, fun z => (Bool.noConfusion z), I0.ok.frames, I0.ok.stk, I0.ok.exf, I0.ok.bs, I0.ok.bsz, I0.ok.noex, I0.ok.exfs, I0.ok.funs, I0.ok.frf⟩,
      I0.os, I0.bare, I0.base, I0.loc, I0.cell, I0.free, I0.freeC, fun p hp => ?_, I0.hok, I0.len⟩
    cases List.mem_singleton.1 (show p ∈ [(e, oe)] by simpa using hp)
    refine ⟨I0.base.keep e oe he hn hfr (fun z => absurd (show e ∈ ([] : List Addr) from z) (by simp)), hn, Nat.ne_of_lt lt, hfr, fun v z => ?_⟩
    obtain ⟨fs, hf⟩ := hfd
    rw [hf] at z
    cases z
  refine wpAny_mono (ht [] s1 (L2.start N vs) H _ I hq) (fun fl s' hs => ?_) fun e s' hs => hs.elim
  have fin : ∀ {σ' : St} {H' : Hp} {v : V} {u : Value}, Inv (cxOfE P w K mg base N qual scope f cdv A outer s H e oe) [] σ' H' s' → RelV v u → Q v H' → CE outer P w H s Q u s' :=
    fun {σ' H' v u} J rv q => ⟨v, H', J.os, J.bare, J.base, J.hok, rv, q⟩
  cases fl with
  | ret u =>
    obtain ⟨v, σ', H', J, rv, q⟩ := hs
    exact fin J rv q
  | next =>
    obtain ⟨σ', H', J, q⟩ := hs
    exact fin (v := V.non) (u := Value.none) J rfl q
  | brk =>
    obtain ⟨_, _, _, q⟩ := hs
    exact False.elim q
  | cont =>
    obtain ⟨_, _, _, q⟩ := hs
    exact False.elim q
theorem Fun.okE {P : Program} {w : World} {K : PySem.W.Frag} {mg : Str → Option Value} {base : Heap} {x qual : Str} {st : Stmt} {f : Addr} {fd : FuncData} {N ps : List Str} {k : Nat} {C : Addr} {sp : Addr → Sp} (F : Fun K x qual st f fd) (S : FnScope N ps (defScope st))
    (len : ∀ e vs H Q E, sp e vs H Q E → vs.length = ps.length)
    (hbody : ∀ (cdv : Value) (A : Around) (outer : List Env) (s : Shared) (H : Hp) (vs : List V) (Q : VK) (e : Addr) (oe : Obj), RoomE k (A.deeper (envOfC qual (defScope st) s.heap.objs.size f cdv)) → (oe.cls = .ref C ∧ oe.dict = none) → (∃ fs, oe.data = .fields fs) → sp e vs H Q (fun _ _ _ => False) →
      ∃ t, PSs (cxOfE P w K mg base N qual (defScope st) f cdv A outer s H e oe) (defBody st) t ∧ t { nx := fun _ H' => Q .non H', rt := Q } (L2.start N vs) H) : FnOkE P w K mg base (k + 1) f fd ps C sp := by
  obtain ⟨oc, od, kV, doc, pm, an, cdv, ct, osl, rfl, lk, hcd⟩ := F.ex
  exact QQ lk hcd S len fun A outer s H vs Q e oe hr hc hf hsp => hbody cdv A outer s H vs Q e oe hr hc hf hsp
structure CalE (P : Program) (w : World) (K : PySem.W.Frag) (mg : Str → Option Value) (base : Heap) (k : Nat) (x : Str) (C : Addr) (sp : Addr → Sp) : Prop where
  ex : ∃ (f : Addr) (fd : FuncData) (ps : List Str), FnOkE P w K mg base k f fd ps C sp ∧ mg x = some (.ref f) ∧ keepIn K (.ref f) = true ∧ Binds K fd ps []
theorem Uq {X : Cx} {k : Nat} {C e : Addr} {oe : Obj} {sp : Addr → Sp} {x : Str} {p pos : Pos} {a : Expr} {es : List Expr} {t : TA} (c : CalE X.prog X.w X.K X.mg X.base k x C sp) (hp : (e, oe) ∈ X.pn) (hc : oe.cls = .ref C ∧ oe.dict = none) (hd : ∃ fs, oe.data = .fields fs)
    (hst : X.stack = X.env :: X.outer) (hff : X.env.frame = some X.env.locals) (hr : RoomE k X.A) (hg : Gl X x) (ha : PA X (a :: es) t) (hdb : (x == ("__debug__" : Str)) = false := by decide) (hse : starEach (a :: es) X.env = (false, eval a X.env) :: starEach es X.env := by rfl) (hpl : (backTo pos (starEach es X.env)).any (·.1) = false := by rfl) :
    PE X (.Call (.Name x p) (a :: es) [] pos) (yp (sp e) [] E0 t) := by
  obtain ⟨f, fd, ps, F, hm, hk, hb⟩ := c.ex
  intro pins s σ H Q I h
  refine wpAny_Call_Name_kw (xC I hg hm ?_ hdb)
  refine PySem.W.callWith_K (h₀ := X.base) I.ok.mod.kin hk (thn (ha pos pins s σ H _ I h) fun us s1 ⟨vs, H1, I1, r, q⟩ => ⟨I1.kIn, ?_⟩) hse hpl
  replace q : sp e (vs ++ []) H1 Q E0 := q
  rw [List.append_nil] at q
  have hl : us.length = ps.length := by rw [← r.length]; exact F.len _ _ _ _ _ q
  have hp1 := I1.pin (e, oe) (List.mem_append_left _ hp)
  have hfr : e ∉ frs X.stack := by
    rw [hst]
    intro z
    have z' : e ∈ X.env.locals :: frs X.outer := by
      have : frs (X.env :: X.outer) = X.env.locals :: frs X.outer := by
        unfold frs
        rw [List.filterMap_cons, hff]
      rw [this] at z
      exact z
    rcases List.mem_cons.1 z' with z' | z'
    · exact hp1.2.2.1 z'
    · exact hp1.2.2.2.1 z'
  refine wpAny_call (codeAny_mono (F.run X.A X.stack s1 H1 ⟨us, []⟩ us vs Q e oe hr I1.env0 (by simpa using hb s1 us I1.kIn (by simpa using hl)) r hp1.1 hc hd hp1.2.1 hfr q) fun r s' hq => ?_)
  cases r with
  | error e => exact (XV (X := X) pins σ H1 s1 e s' I1 hq)
  | ok fl =>
    cases fl with
    | ret u => exact I1.after hq
    | next => exact False.elim hq
    | brk => exact False.elim hq
    | cont => exact False.elim hq
section
variable {X : Cx} {K : PySem.W.Frag} {P : Program} {w : World}
theorem jD {o e : Expr} {es : List Expr} {to : TE} {t : TA} {apos cpos : Pos} (hK : X.K = K) (hP : X.prog = P) (hw : X.w = w) (ho : PE X o to) (ha : PA X (e :: es) t)
    (hbase : attributeBase o "get" X.env (eval o X.env) = eval o X.env := by rfl)
    (hfew : ((backTo cpos (starEach (e :: es) X.env)).all (fun x => !x.1) && (backToKw cpos (keywordEach [] X.env)).all (fun x => x.1.isSome)
      && decide ((e :: es).length + ([] : List Keyword).length + (if ([] : List Keyword).isEmpty then 0 else 1) < 30)) = true := by rfl)
    (hline : (apos.endLine == cpos.line) = true := by rfl) (hs : starEach (e :: es) X.env = (false, eval e X.env) :: starEach es X.env := by rfl) (hplain : (backTo cpos (starEach es X.env)).any (·.1) = false := by rfl) :
    PE X (.Call (.Attribute o "get" apos) (e :: es) [] cpos) (Zp P w K to t) := by subst hK hP hw; exact Um ho ha hbase hfew hline hs hplain
theorem Yp {es : List Expr} {k : Nat} {tp : Pos} {o : Expr} {to : TE} {apos cpos : Pos} (hK : X.K = K) (hP : X.prog = P) (hw : X.w = w) (ho : PE X o to) (hbase : attributeBase o "items" X.env (eval o X.env) = eval o X.env := by rfl) (hline : (apos.endLine == cpos.line) = true := by rfl) :
    PI X (.Tuple es k tp) (.Call (.Attribute o "items" apos) [] [] cpos) (jC P w K to) := by subst hK hP hw; exact Xz ho hbase hline
noncomputable def tCD (v : V) : TE := tC v
theorem Jq {x : Str} {p : Pos} {a : Addr} (hg : Gl X x) (hm : X.mg x = some (.ref a)) (hdb : (x == ("__debug__" : Str)) = false := by decide) : PE X (.Name x p) (tCD (.ref a)) := z0 (v := .ref a) (u := .ref a) hg hm rfl hdb
noncomputable def wCD (K : PySem.W.Frag) (v : V) : TEW := fun _ O R => ∃ x, (∀ Z : Hp, Rep K Z x v) ∧ R (.d x) O
theorem QR {v : V} : zj K (tCD v) (wCD K v) := by
  rintro Γ O H ρ σ S r Q R ⟨x, hx, hR⟩ k
  exact k _ _ _ _ _ (Le.refl _) S (X1 (hx _)) hR
noncomputable def Vv (K : PySem.W.Frag) (a : Addr) (t : TA) : TE := tBM K "tuple" (kA K) (tC (.ref a)) t
theorem Ur {x : Str} {p : Pos} {a : Addr} {e : Expr} {es : List Expr} {t : TA} {apos cpos : Pos} (hK : X.K = K) (hg : Gl X x) (hm : X.mg x = some (.ref a)) (ha : PA X (e :: es) t) (hdb : (x == ("__debug__" : Str)) = false := by decide)
    (hbase : attributeBase (.Name x p) "index" X.env (eval (.Name x p) X.env) = eval (.Name x p) X.env := by rfl)
    (hfew : ((backTo cpos (starEach (e :: es) X.env)).all (fun x => !x.1) && (backToKw cpos (keywordEach [] X.env)).all (fun x => x.1.isSome)
      && decide ((e :: es).length + ([] : List Keyword).length + (if ([] : List Keyword).isEmpty then 0 else 1) < 30)) = true := by rfl)
    (hline : (apos.endLine == cpos.line) = true := by rfl) (hs : starEach (e :: es) X.env = (false, eval e X.env) :: starEach es X.env := by rfl) (hplain : (backTo cpos (starEach es X.env)).any (·.1) = false := by rfl) :
    PE X (.Call (.Attribute (.Name x p) "index" apos) (e :: es) [] cpos) (Vv K a t) := by
  subst hK
  exact k7 PySem.F.plainAttrs_tuple PySem.F.slot_tuple_index PySem.F.type_tuple_index Ym (z0 (v := .ref a) (u := .ref a) hg hm rfl hdb) ha hbase hfew hline hs hplain
noncomputable def Vw (K : PySem.W.Frag) (a : Addr) (T : TAW) : TEW := fun ρ O R => (∃ o, K.lookup a = some o ∧ o.cls = .type "tuple" ∧ o.dict = none) ∧ T ρ O fun xs O1 => ∃ ws : List Str, ∃ z j, (∀ Z : Hp, SqT K Z a (ws.map V.str)) ∧ xs = [.d (.str z)] ∧ ws[j]? = some z ∧ (∀ i, i < j → ws[i]? ≠ some z) ∧ R (.d (.int (j : Nat))) O1
theorem XD {a : Addr} {t : TA} {T : TAW} (h : zY K t T) : zj K (Vv K a t) (Vw K a T) := by
  rintro Γ O H ρ σ S r Q R ⟨ho, hT⟩ k
  refine ⟨.inr (.inl ⟨rfl, ho⟩), h _ _ _ _ _ S r _ _ hT fun Γ1 O1 H1 xs vs l1 S1 rs h1 => ?_⟩
  obtain ⟨ws, z, j, hq, rfl, hj, hno, h1⟩ := h1
  cases rs with
  | cons ry t =>
    cases t
    exact ⟨a, ws, z, j, rfl, by rw [show _ = V.str z from ry], hq _, hj, hno, k _ _ _ _ _ l1 S1 yu h1⟩
end
end L2
namespace L2
open PySem PySem.Spec PyProof.Rows
noncomputable def jnB : List (List Nat) → List Nat
  | [] => []
  | [a] => a
  | a :: b :: r => a ++ 32 :: jnB (b :: r)
theorem Vx : ∀ {a b x y : List Nat}, 32 ∉ a → 32 ∉ b → a ++ 32 :: x = b ++ 32 :: y → a = b ∧ x = y
  | [], [], x, y, _, _, e => ⟨rfl, by simpa using e⟩
  | [], c :: b, x, y, _, hb, e => by
    simp at e
    exact absurd (by rw [← e.1]; exact List.mem_cons_self) hb
  | c :: a, [], x, y, ha, _, e => by
    simp at e
    exact absurd (by rw [e.1]; exact List.mem_cons_self) ha
  | c :: a, d :: b, x, y, ha, hb, e => by
    simp at e
    obtain ⟨h1, h2⟩ := Vx (fun z => ha (List.mem_cons_of_mem _ z)) (fun z => hb (List.mem_cons_of_mem _ z)) e.2
    exact ⟨by rw [e.1, h1], h2⟩
theorem kB : ∀ {A B : List (List Nat)}, A ≠ [] → B ≠ [] → (∀ a ∈ A, 32 ∉ a) → (∀ b ∈ B, 32 ∉ b) → jnB A = jnB B → A = B
  | [], _, h, _, _, _, _ => absurd rfl h
  | _, [], _, h, _, _, _ => absurd rfl h
  | [a], [b], _, _, _, _, e => by rw [show a = b from e]
  | [a], b :: c :: s, _, _, ha, _, e => by
    have e : a = b ++ 32 :: jnB (c :: s) := e
    exact absurd (by rw [e]; simp) (ha a List.mem_cons_self)
  | a :: d :: r, [b], _, _, _, hb, e => by
    have e : a ++ 32 :: jnB (d :: r) = b := e
    exact absurd (by rw [← e]; simp) (hb b List.mem_cons_self)
  | a :: d :: r, b :: c :: s, _, _, ha, hb, e => by
    have e : a ++ 32 :: jnB (d :: r) = b ++ 32 :: jnB (c :: s) := e
    obtain ⟨h1, h2⟩ := Vx (ha a List.mem_cons_self) (hb b List.mem_cons_self) e
    rw [h1, kB (A := d :: r) (B := c :: s) (by simp) (by simp) (fun z hz => ha z (List.mem_cons_of_mem _ hz)) (fun z hz => hb z (List.mem_cons_of_mem _ hz)) h2]
noncomputable def sp1 : Str := Str.ofString " "
theorem Yq : sp1 = ⟨#[32]⟩ := by decide +kernel
theorem yl : ∀ ps : List Str, (Str.join sp1 ps).cps.toList = jnB (ps.map (·.cps.toList))
  | [] => rfl
  | [p] => rfl
  | p :: q :: r => by
    rw [join_cons_cons, zJ, zJ, yl (q :: r)]
    have e : sp1.cps.toList = [32] := by rw [Yq]
    have e2 : jnB ((p :: q :: r).map (·.cps.toList)) = p.cps.toList ++ 32 :: jnB ((q :: r).map (·.cps.toList)) := rfl
    rw [e, e2]
    simp
theorem jZ {A B : List Str} (h : A.map (·.cps.toList) = B.map (·.cps.toList)) : A = B := by
  induction A generalizing B with
  | nil => cases B with
    | nil => rfl
    | cons _ _ => cases h
  | cons a A ih => cases B with
    | nil => cases h
    | cons b B =>
      simp only [List.map_cons, List.cons.injEq] at h
      rw [uT h.1, ih h.2]
theorem xZ {ws : List Str} (hn : ws ≠ []) (hf : ∀ w ∈ ws, 32 ∉ w.cps.toList) : Txt.split (Str.join sp1 ws) sp1 = ws := by
  apply jZ
  refine kB ?_ (by simpa using hn) ?_ ?_ ?_
  · have := split_pos (Str.join sp1 ws) sp1
    intro e
    have : (Txt.split (Str.join sp1 ws) sp1).length = 0 := by simpa using congrArg List.length e
    omega
  · intro a ha
    obtain ⟨p, hp, rfl⟩ := List.mem_map.mp ha
    rw [Yq] at hp
    exact StrLaws.split_free _ 32 p hp
  · intro a ha
    obtain ⟨p, hp, rfl⟩ := List.mem_map.mp ha
    exact hf p hp
  · rw [← yl, ← yl, StrLaws.join_split]
theorem kC : ∀ A : List (List Nat), (jnB A).length + 1 = (A.map (·.length)).sum + A.length ∨ A = []
  | [] => .inr rfl
  | [a] => .inl (by simp [jnB])
  | a :: b :: r => by
    refine .inl ?_
    rcases kC (b :: r) with h | h
    · simp only [jnB, List.length_append, List.length_cons, List.map_cons, List.sum_cons] at h ⊢
      omega
    · cases h
theorem qC {ps : List Str} (h : ps ≠ []) : (Str.join sp1 ps).length + 1 = (ps.map (·.length)).sum + ps.length := by
  have := kC (ps.map (·.cps.toList))
  rcases this with e | e
  · rw [← yl, List.length_map, List.map_map] at e
    rw [xM]
    have e2 : (ps.map (·.length)) = ps.map ((fun x : List Nat => x.length) ∘ fun x : Str => x.cps.toList) := List.map_congr_left fun p _ => xM p
    rw [e2]
    exact e
  · exact absurd (by simpa using e) h
theorem uo (z : Str) : z.length + 1 = ((Txt.split z sp1).map (·.length)).sum + (Txt.split z sp1).length ∧ (Txt.split z sp1) ≠ [] := by
  have hn : Txt.split z sp1 ≠ [] := fun e => by
    have := split_pos z sp1
    rw [e] at this
    cases this
  refine ⟨?_, hn⟩
  rw [← qC hn, StrLaws.join_split]
theorem kD (a b : Nat) : Builtin.bitOr (a : Int) (b : Int) = ((a ||| b : Nat) : Int) := by
  have h1 : ¬ (0 : Int) ≤ Builtin.bitNot (a : Int) := by unfold Builtin.bitNot; omega
  have h2 : ¬ (0 : Int) ≤ Builtin.bitNot (b : Int) := by unfold Builtin.bitNot; omega
  have e : ∀ x : Int, Builtin.bitNot (Builtin.bitNot x) = x := fun x => by unfold Builtin.bitNot; omega
  unfold Builtin.bitOr Builtin.bitAnd
  rw [decide_eq_false h1, decide_eq_false h2]
  simp only [e, Int.toNat_natCast]
theorem xm (a b : Nat) : Builtin.bitAnd (a : Int) (b : Int) = ((a &&& b : Nat) : Int) := by
  unfold Builtin.bitAnd
  rw [decide_eq_true (Int.natCast_nonneg a), decide_eq_true (Int.natCast_nonneg b)]
  rfl
noncomputable def bitsD : List (Str × Int) := [(Str.ofString "bold", 64), (Str.ofString "under", 128), (Str.ofString "turned", 256)]
noncomputable def stepsD : List (Str × Int) := [(Str.ofString "fore", 1), (Str.ofString "back", 8)]
noncomputable def figs : List Str := [Str.ofString "0", Str.ofString "1", Str.ofString "2", Str.ofString "3", Str.ofString "4", Str.ofString "5", Str.ofString "6", Str.ofString "7"]
noncomputable def yb (w : Str) : Nat := if w = Str.ofString "bold" then 64 else if w = Str.ofString "under" then 128 else if w = Str.ofString "turned" then 256 else 0
noncomputable def yC (w : Str) : Nat := if w = Str.ofString "fore" then 1 else if w = Str.ofString "back" then 8 else 0
theorem Us (w : Str) : (yr bitsD w).getD 0 = (yb w : Nat) := by
  unfold yb bitsD
  simp only [yr]
  by_cases h1 : Str.ofString "bold" = w
  · rw [if_pos h1, if_pos h1.symm]; rfl
  · rw [if_neg h1, if_neg (Ne.symm h1)]
    by_cases h2 : Str.ofString "under" = w
    · rw [if_pos h2, if_pos h2.symm]; rfl
    · rw [if_neg h2, if_neg (Ne.symm h2)]
      by_cases h3 : Str.ofString "turned" = w
      · rw [if_pos h3, if_pos h3.symm]; rfl
      · rw [if_neg h3, if_neg (Ne.symm h3)]; rfl
theorem XE (w : Str) : (yr stepsD w).getD 0 = (yC w : Nat) := by
  unfold yC stepsD
  simp only [yr]
  by_cases h1 : Str.ofString "fore" = w
  · rw [if_pos h1, if_pos h1.symm]; rfl
  · rw [if_neg h1, if_neg (Ne.symm h1)]
    by_cases h2 : Str.ofString "back" = w
    · rw [if_pos h2, if_pos h2.symm]; rfl
    · rw [if_neg h2, if_neg (Ne.symm h2)]; rfl
noncomputable def yc (w : Str) : Nat := figs.findIdx (· == w)
noncomputable def yh (r : Nat × Str) (w : Str) : Nat × Str := (if w ∈ figs then (r.1 ||| yb w) ||| yc w * yC r.2 else r.1 ||| yb w, w)
noncomputable def lik (ws : List Str) : Nat := (ws.foldl yh (0, Str.ofString "")).1
theorem Ut (w : Str) : yb w < 512 := by unfold yb; split <;> (try split) <;> (try split) <;> decide
theorem Yr {w : Str} (h : w ∈ figs) : yc w < 8 := List.findIdx_lt_length_of_exists ⟨w, h, by simp⟩
theorem XF (w : Str) : yC w ≤ 8 := by unfold yC; split <;> (try split) <;> decide
theorem Uu {r : Nat × Str} {w : Str} (h : r.1 < 512) : (yh r w).1 < 512 := by
  unfold yh
  have h1 : r.1 ||| yb w < 2 ^ 9 := Nat.or_lt_two_pow h (Ut w)
  simp only
  split
  · rename_i hf
    have h2 := Yr hf
    have h3 := XF r.2
    have h4 : yc w * yC r.2 ≤ 7 * 8 := Nat.mul_le_mul (by omega) h3
    exact Nat.or_lt_two_pow h1 (show yc w * yC r.2 < 2 ^ 9 by omega)
  · exact h1
theorem Ys (ws : List Str) : lik ws < 512 := by
  unfold lik
  have key : ∀ (ws : List Str) (r : Nat × Str), r.1 < 512 → (ws.foldl yh r).1 < 512 := by
    intro ws
    induction ws with
    | nil => exact fun _ h => h
    | cons w ws ih => exact fun r h => ih _ (Uu h)
  exact key ws _ (by decide)
noncomputable def wrdB : Str := Str.ofString "bold"
noncomputable def wrdU : Str := Str.ofString "under"
noncomputable def wrdT : Str := Str.ofString "turned"
noncomputable def wrdF : Str := Str.ofString "fore"
noncomputable def wrdK : Str := Str.ofString "back"
noncomputable def fig (k : Nat) : Str := ⟨#[48 + k]⟩
noncomputable def bun (n : Nat) : List (List Str) := (if n / 64 % 2 = 1 then [[wrdB]] else []) ++ (if n / 128 % 2 = 1 then [[wrdU]] else []) ++ (if n / 256 % 2 = 1 then [[wrdT]] else []) ++ (if n % 8 = 0 then [] else [[wrdF, fig (n % 8)]]) ++ (if n / 8 % 8 = 0 then [] else [[wrdK, fig (n / 8 % 8)]])
noncomputable def wl (n : Nat) : List Str := (bun n).flatten
noncomputable def zA (n : Nat) : Str := if n = 0 then Str.ofString "plain" else Str.join sp1 ((bun n).map (Str.join sp1))
theorem vv (a b : Str) (r : List Str) : Str.join sp1 (a :: b :: r) = a ++ sp1 ++ Str.join sp1 (b :: r) := rfl
theorem Yt (a b c : Str) : a ++ b ++ c = a ++ (b ++ c) := by
  apply uT
  rw [zJ, zJ, zJ, zJ, List.append_assoc]
theorem jE : ∀ {A B : List Str}, A ≠ [] → B ≠ [] → Str.join sp1 (A ++ B) = Str.join sp1 A ++ sp1 ++ Str.join sp1 B
  | [], _, h, _ => absurd rfl h
  | [a], b :: B, _, _ => by
    rw [List.singleton_append, vv]
    rfl
  | [a], [], _, h => absurd rfl h
  | a :: c :: A, B, _, hB => by
    rw [List.cons_append, List.cons_append, vv, ← List.cons_append, jE (A := c :: A) (by simp) hB, vv]
    simp only [Yt]
theorem jF : ∀ {L : List (List Str)}, (∀ l ∈ L, l ≠ []) → Str.join sp1 (L.map (Str.join sp1)) = Str.join sp1 L.flatten
  | [], _ => rfl
  | [l], _ => by
    rw [List.map_singleton, List.flatten_singleton]
    rfl
  | l :: m :: L, h => by
    have ih := jF (L := m :: L) fun x hx => h x (List.mem_cons_of_mem _ hx)
    have e0 : (l :: m :: L).flatten = l ++ (m :: L).flatten := rfl
    have e1 : (l :: m :: L).map (Str.join sp1) = Str.join sp1 l :: Str.join sp1 m :: L.map (Str.join sp1) := rfl
    rw [e0, e1, vv, show Str.join sp1 m :: L.map (Str.join sp1) = (m :: L).map (Str.join sp1) from rfl, ih, jE (h l List.mem_cons_self)]
    intro e
    have hm := h m (by simp)
    simp only [List.flatten_cons, List.append_eq_nil_iff] at e
    exact hm e.1
theorem QS (n : Nat) : ∀ l ∈ bun n, l ≠ [] := by
  intro l hl
  unfold bun at hl
  simp only [List.mem_append] at hl
  rcases hl with (((hl | hl) | hl) | hl) | hl <;> split at hl <;> simp at hl <;> subst hl <;> simp
theorem Zu {n : Nat} (h0 : n ≠ 0) (h : n < 512) : wl n ≠ [] := by
  unfold wl bun
  intro e
  simp only [List.flatten_append, List.append_eq_nil_iff] at e
  obtain ⟨⟨⟨⟨e1, e2⟩, e3⟩, e4⟩, e5⟩ := e
  have g1 : n / 64 % 2 ≠ 1 := fun z => by rw [if_pos z] at e1; simp at e1
  have g2 : n / 128 % 2 ≠ 1 := fun z => by rw [if_pos z] at e2; simp at e2
  have g3 : n / 256 % 2 ≠ 1 := fun z => by rw [if_pos z] at e3; simp at e3
  have g4 : n % 8 = 0 := Classical.byContradiction fun z => by rw [if_neg z] at e4; simp at e4
  have g5 : n / 8 % 8 = 0 := Classical.byContradiction fun z => by rw [if_neg z] at e5; simp at e5
  omega
theorem kE {n : Nat} (h0 : n ≠ 0) : zA n = Str.join sp1 (wl n) := by
  unfold zA
  rw [if_neg h0, jF (QS n)]
  rfl
theorem qD : (32 ∉ wrdB.cps.toList) ∧ (32 ∉ wrdU.cps.toList) ∧ (32 ∉ wrdT.cps.toList) ∧ (32 ∉ wrdF.cps.toList) ∧ (32 ∉ wrdK.cps.toList) ∧ 32 ∉ (Str.ofString "plain").cps.toList := by decide +kernel
theorem Uv (n : Nat) : ∀ w ∈ wl n, 32 ∉ w.cps.toList := by
  intro w hw
  obtain ⟨f1, f2, f3, f4, f5, _⟩ := qD
  have ff : ∀ k, 32 ∉ (fig k).cps.toList := fun k m => by
    have : 32 = 48 + k := by simpa [fig] using m
    omega
  unfold wl at hw
  obtain ⟨l, hl, hw⟩ := List.mem_flatten.1 hw
  unfold bun at hl
  simp only [List.mem_append] at hl
  rcases hl with (((hl | hl) | hl) | hl) | hl <;> split at hl <;> simp at hl <;> subst hl <;> simp at hw
  · rw [hw]; exact f1
  · rw [hw]; exact f2
  · rw [hw]; exact f3
  · rcases hw with rfl | rfl
    · exact f4
    · exact ff _
  · rcases hw with rfl | rfl
    · exact f5
    · exact ff _
theorem vi {n : Nat} (h0 : n ≠ 0) (h : n < 512) : Txt.split (zA n) sp1 = wl n := by
  rw [kE h0]
  exact xZ (Zu h0 h) (Uv n)
theorem vx : Txt.split (Str.ofString "plain") sp1 = [Str.ofString "plain"] := by
  have := xZ (ws := [Str.ofString "plain"]) (by simp) (fun w hw => by cases List.mem_singleton.1 hw; exact qD.2.2.2.2.2)
  exact this
theorem kG {k : Nat} (h : k < 8) : fig k ∈ figs ∧ yc (fig k) = k ∧ yb (fig k) = 0 := by
  have : ∀ k : _root_.Fin 8, fig k.val ∈ figs ∧ yc (fig k.val) = k.val ∧ yb (fig k.val) = 0 := by decide +kernel
  exact this ⟨k, h⟩
theorem xV : (wrdB ∉ figs ∧ yb wrdB = 64) ∧ (wrdU ∉ figs ∧ yb wrdU = 128) ∧ (wrdT ∉ figs ∧ yb wrdT = 256) ∧ (wrdF ∉ figs ∧ yb wrdF = 0 ∧ yC wrdF = 1) ∧ (wrdK ∉ figs ∧ yb wrdK = 0 ∧ yC wrdK = 8) ∧ (Str.ofString "plain" ∉ figs ∧ yb (Str.ofString "plain") = 0) := by decide +kernel
theorem vN {r : Nat} {a w : Str} (h : w ∉ figs) : yh (r, a) w = (r ||| yb w, w) := by unfold yh; rw [if_neg h]
theorem Uw {r k : Nat} {a : Str} (h : k < 8) : yh (r, a) (fig k) = (r ||| k * yC a, fig k) := by
  obtain ⟨h1, h2, h3⟩ := kG h
  unfold yh
  rw [if_pos h1, h2, h3, Nat.or_zero]
theorem QT : ∀ n : _root_.Fin 512, ((((0 ||| (if n.val / 64 % 2 = 1 then 64 else 0)) ||| (if n.val / 128 % 2 = 1 then 128 else 0)) ||| (if n.val / 256 % 2 = 1 then 256 else 0)) ||| n.val % 8) ||| n.val / 8 % 8 * 8 = n.val := by decide +kernel
theorem uW {r : Nat} {a : Str} {c : Prop} [Decidable c] {w : Str} (h : w ∉ figs) : ∃ b, ((if c then [[w]] else []).flatten).foldl yh (r, a) = (r ||| (if c then yb w else 0), b) := by
  by_cases hc : c
  · rw [if_pos hc, if_pos hc]
    exact ⟨w, by simp [vN h]⟩
  · rw [if_neg hc, if_neg hc]
    exact ⟨a, by simp⟩
theorem kH {r k : Nat} {a w : Str} (hk : k < 8) (h : w ∉ figs) (hb : yb w = 0) : ∃ b, ((if k = 0 then [] else [[w, fig k]]).flatten).foldl yh (r, a) = (r ||| k * yC w, b) := by
  by_cases hc : k = 0
  · rw [if_pos hc]
    exact ⟨a, by simp [hc]⟩
  · rw [if_neg hc]
    exact ⟨fig k, by simp [vN h, hb, Uw hk]⟩
theorem QU {n : Nat} (h : n < 512) : lik (wl n) = n := by
  obtain ⟨⟨b1, b2⟩, ⟨u1, u2⟩, ⟨t1, t2⟩, ⟨f1, f2, f3⟩, ⟨k1, k2, k3⟩, _⟩ := xV
  unfold lik wl bun
  simp only [List.flatten_append, List.foldl_append]
  obtain ⟨a1, e1⟩ := uW (r := 0) (a := Str.ofString "") (c := n / 64 % 2 = 1) b1
  rw [e1, b2]
  obtain ⟨a2, e2⟩ := uW (r := 0 ||| (if n / 64 % 2 = 1 then 64 else 0)) (a := a1) (c := n / 128 % 2 = 1) u1
  rw [e2, u2]
  obtain ⟨a3, e3⟩ := uW (r := (0 ||| (if n / 64 % 2 = 1 then 64 else 0)) ||| (if n / 128 % 2 = 1 then 128 else 0)) (a := a2) (c := n / 256 % 2 = 1) t1
  rw [e3, t2]
  obtain ⟨a4, e4⟩ := kH (r := ((0 ||| (if n / 64 % 2 = 1 then 64 else 0)) ||| (if n / 128 % 2 = 1 then 128 else 0)) ||| (if n / 256 % 2 = 1 then 256 else 0)) (a := a3) (k := n % 8) (by omega) f1 f2
  rw [e4, f3, Nat.mul_one]
  obtain ⟨a5, e5⟩ := kH (r := (((0 ||| (if n / 64 % 2 = 1 then 64 else 0)) ||| (if n / 128 % 2 = 1 then 128 else 0)) ||| (if n / 256 % 2 = 1 then 256 else 0)) ||| n % 8) (a := a4) (k := n / 8 % 8) (by omega) k1 k2
  rw [e5, k3]
  exact QT ⟨n, h⟩
theorem Ux {n : Nat} (h : n < 512) : lik (Txt.split (zA n) sp1) = n := by
  by_cases h0 : n = 0
  · subst h0
    have e : zA 0 = Str.ofString "plain" := rfl
    rw [e, vx]
    unfold lik
    rw [List.foldl_cons, List.foldl_nil, vN xV.2.2.2.2.2.1, xV.2.2.2.2.2.2]
    rfl
  · rw [vi h0 h, QU h]
noncomputable def yH : List Str := [Str.ofString "1", Str.ofString "2", Str.ofString "3", Str.ofString "4", Str.ofString "5", Str.ofString "6", Str.ofString "7"]
noncomputable def zH (ws : List Str) (m : Str) (v : Nat) (s : Nat × Nat) : Nat × Nat := if (ws.drop s.2).take 1 = [m] then (s.1 + v, s.2 + 1) else s
noncomputable def xn (ws : List Str) (i : Nat) : Str := (((ws.drop (i + 1)).take 1) ++ [Str.ofString ""]).headD (Str.ofString "")
noncomputable def yI (ws : List Str) (m : Str) (v : Nat) (s : Nat × Nat) : Nat × Nat := if (ws.drop s.2).take 1 = [m] ∧ xn ws s.2 ∈ yH then (s.1 + v * yc (xn ws s.2), s.2 + 2) else s
noncomputable def zW (ws : List Str) : Nat × Nat := yI ws wrdK 8 (yI ws wrdF 1 (zH ws wrdT 256 (zH ws wrdU 128 (zH ws wrdB 64 (0, 0)))))
noncomputable def uX (ws : List Str) : Option Nat := if (zW ws).2 = 0 ∨ (zW ws).2 < ws.length then none else some (zW ws).1
noncomputable def yo (z : Str) : Option Nat := if z = Str.ofString "plain" then some 0 else uX (Txt.split z sp1)
theorem uY (ws : List Str) (m : Str) (v : Nat) (s : Nat × Nat) : ∃ b : Bool, zH ws m v s = (s.1 + (if b then v else 0), s.2 + (if b then 1 else 0)) ∧ ws.drop s.2 = (if b then [m] else []) ++ ws.drop (s.2 + (if b then 1 else 0)) := by
  unfold zH
  by_cases h : (ws.drop s.2).take 1 = [m]
  · refine ⟨true, by rw [if_pos h]; rfl, ?_⟩
    have := List.take_append_drop 1 (ws.drop s.2)
    rw [h, List.drop_drop] at this
    exact this.symm
  · exact ⟨false, by rw [if_neg h]; rfl, rfl⟩
theorem Uy {d : Str} (h : d ∈ yH) : ∃ k, 1 ≤ k ∧ k < 8 ∧ d = fig k ∧ yc d = k := by
  have : ∀ d ∈ yH, d = fig (yc d) ∧ 1 ≤ yc d ∧ yc d < 8 := by decide +kernel
  obtain ⟨h1, h2, h3⟩ := this d h
  exact ⟨yc d, h2, h3, h1, rfl⟩
theorem kI (ws : List Str) (m : Str) (v : Nat) (s : Nat × Nat) : ∃ k, k < 8 ∧ yI ws m v s = (s.1 + v * k, s.2 + (if k = 0 then 0 else 2)) ∧ ws.drop s.2 = (if k = 0 then [] else [m, fig k]) ++ ws.drop (s.2 + (if k = 0 then 0 else 2)) := by
  unfold yI
  by_cases h : (ws.drop s.2).take 1 = [m] ∧ xn ws s.2 ∈ yH
  · obtain ⟨h1, h2⟩ := h
    obtain ⟨k, k1, k2, k3, k4⟩ := Uy h2
    have hk : k ≠ 0 := by omega
    refine ⟨k, k2, by rw [if_pos ⟨h1, h2⟩, k4, if_neg hk], ?_⟩
    rw [if_neg hk, if_neg hk]
    have e1 := List.take_append_drop 1 (ws.drop s.2)
    rw [h1, List.drop_drop] at e1
    have e2 : ws.drop (s.2 + 1) = fig k :: ws.drop (s.2 + 2) := by
      cases hd : ws.drop (s.2 + 1) with
      | nil =>
        unfold xn at k3
        rw [hd] at k3
        have : Str.ofString "" = fig k := k3
        have : (Str.ofString "").cps.toList.length = 1 := by rw [this]; rfl
        exact absurd this (by decide +kernel)
      | cons x r =>
        unfold xn at k3
        rw [hd] at k3
        have hx : x = fig k := k3
        have hr : r = ws.drop (s.2 + 2) := by
          have := congrArg (List.drop 1) hd
          rw [List.drop_drop] at this
          exact this.symm
        rw [hx, hr]
    rw [← e1, e2]
    rfl
  · exact ⟨0, by decide, by rw [if_neg h]; simp, rfl⟩
theorem Yu {ws : List Str} {n : Nat} (h : uX ws = some n) : n ≠ 0 ∧ n < 512 ∧ ws = wl n := by
  unfold uX at h
  split at h
  · cases h
  · rename_i hn
    cases h
    obtain ⟨b1, e1, d1⟩ := uY ws wrdB 64 (0, 0)
    obtain ⟨b2, e2, d2⟩ := uY ws wrdU 128 (zH ws wrdB 64 (0, 0))
    obtain ⟨b3, e3, d3⟩ := uY ws wrdT 256 (zH ws wrdU 128 (zH ws wrdB 64 (0, 0)))
    obtain ⟨f, f8, e4, d4⟩ := kI ws wrdF 1 (zH ws wrdT 256 (zH ws wrdU 128 (zH ws wrdB 64 (0, 0))))
    obtain ⟨k, k8, e5, d5⟩ := kI ws wrdK 8 (yI ws wrdF 1 (zH ws wrdT 256 (zH ws wrdU 128 (zH ws wrdB 64 (0, 0)))))
    have hS : zW ws = yI ws wrdK 8 (yI ws wrdF 1 (zH ws wrdT 256 (zH ws wrdU 128 (zH ws wrdB 64 (0, 0))))) := rfl
    rw [← hS] at e5
    have hdrop : ws.drop (zW ws).2 = [] := List.drop_eq_nil_of_le (by omega)
    have s5 : (yI ws wrdF 1 (zH ws wrdT 256 (zH ws wrdU 128 (zH ws wrdB 64 (0, 0))))).2 + (if k = 0 then 0 else 2) = (zW ws).2 := by rw [e5]
    have s4 := congrArg Prod.snd e4
    have s3 := congrArg Prod.snd e3
    have s2 := congrArg Prod.snd e2
    have s1 := congrArg Prod.snd e1
    simp only at s1 s2 s3 s4
    rw [s5, hdrop] at d5
    rw [← s4, d5] at d4
    rw [← s3, d4] at d3
    rw [← s2, d3] at d2
    rw [← s1, d2] at d1
    have n5 := congrArg Prod.fst e5
    have n4 := congrArg Prod.fst e4
    have n3 := congrArg Prod.fst e3
    have n2 := congrArg Prod.fst e2
    have n1 := congrArg Prod.fst e1
    simp only at n1 n2 n3 n4 n5
    have hnum : (zW ws).1 = (if b1 then 64 else 0) + (if b2 then 128 else 0) + (if b3 then 256 else 0) + f + 8 * k := by omega
    have hlen : (zW ws).2 = (if b1 then 1 else 0) + (if b2 then 1 else 0) + (if b3 then 1 else 0) + (if f = 0 then 0 else 2) + (if k = 0 then 0 else 2) := by omega
    have c1 : ((zW ws).1 / 64 % 2 = 1) = (b1 = true) := by cases b1 <;> cases b2 <;> cases b3 <;> simp only [if_true, Bool.false_eq_true, if_false] at hnum <;> simp <;> omega
    have c2 : ((zW ws).1 / 128 % 2 = 1) = (b2 = true) := by cases b1 <;> cases b2 <;> cases b3 <;> simp only [if_true, Bool.false_eq_true, if_false] at hnum <;> simp <;> omega
    have c3 : ((zW ws).1 / 256 % 2 = 1) = (b3 = true) := by cases b1 <;> cases b2 <;> cases b3 <;> simp only [if_true, Bool.false_eq_true, if_false] at hnum <;> simp <;> omega
    have c4 : (zW ws).1 % 8 = f := by cases b1 <;> cases b2 <;> cases b3 <;> simp only [if_true, Bool.false_eq_true, if_false] at hnum <;> omega
    have c5 : (zW ws).1 / 8 % 8 = k := by cases b1 <;> cases b2 <;> cases b3 <;> simp only [if_true, Bool.false_eq_true, if_false] at hnum <;> omega
    refine ⟨?_, ?_, ?_⟩
    · intro z
      rw [z] at hnum
      cases b1 <;> cases b2 <;> cases b3 <;> simp only [if_true, Bool.false_eq_true, if_false] at hnum hlen <;> split at hlen <;> split at hlen <;> omega
    · cases b1 <;> cases b2 <;> cases b3 <;> simp only [if_true, Bool.false_eq_true, if_false] at hnum <;> omega
    · unfold wl bun
      simp only [c1, c2, c3, c4, c5]
      rw [show ws = ws.drop 0 from rfl, d1]
      cases b1 <;> cases b2 <;> cases b3 <;> by_cases hf : f = 0 <;> by_cases hk : k = 0 <;> simp [hf, hk]
theorem j4 {z : Str} {n : Nat} (h : yo z = some n) : n < 512 ∧ z = zA n := by
  unfold yo at h
  split at h
  · rename_i e
    cases h
    exact ⟨by decide, e⟩
  · obtain ⟨h0, h1, h2⟩ := Yu h
    refine ⟨h1, ?_⟩
    rw [kE h0, ← h2, StrLaws.join_split]
theorem uZ {ws zv : List Str} {m : Str} {v : Nat} {s : Nat × Nat} {c : Prop} [Decidable c] (h : ws.drop s.2 = (if c then [m] else []) ++ zv) (hn : m ∉ zv) : zH ws m v s = (s.1 + (if c then v else 0), s.2 + (if c then 1 else 0)) ∧ ws.drop (s.2 + (if c then 1 else 0)) = zv := by
  unfold zH
  by_cases hc : c
  · simp only [if_pos hc] at h ⊢
    refine ⟨by rw [if_pos (by rw [h]; rfl)], ?_⟩
    have := congrArg (List.drop 1) h
    rw [List.drop_drop] at this
    exact this
  · simp only [if_neg hc] at h ⊢
    refine ⟨by
      rw [if_neg fun e => hn ?_]
      · rfl
      · rw [h, List.nil_append] at e
        exact List.mem_of_mem_take (show m ∈ zv.take 1 by rw [e]; simp), by simpa using h⟩
theorem XG {k : Nat} (h1 : 1 ≤ k) (h2 : k < 8) : fig k ∈ yH := by
  have : ∀ k : _root_.Fin 8, 1 ≤ k.val → fig k.val ∈ yH := by decide +kernel
  exact this ⟨k, h2⟩ h1
theorem kJ {ws zv : List Str} {m : Str} {v k : Nat} {s : Nat × Nat} (hk : k < 8) (h : ws.drop s.2 = (if k = 0 then [] else [m, fig k]) ++ zv) (hn : m ∉ zv) : yI ws m v s = (s.1 + v * k, s.2 + (if k = 0 then 0 else 2)) ∧ ws.drop (s.2 + (if k = 0 then 0 else 2)) = zv := by
  unfold yI
  by_cases hc : k = 0
  · simp only [if_pos hc] at h ⊢
    refine ⟨by
      rw [if_neg fun e => hn ?_]
      · subst hc
        rfl
      · have e1 := e.1
        rw [h, List.nil_append] at e1
        exact List.mem_of_mem_take (show m ∈ zv.take 1 by rw [e1]; simp), by simpa using h⟩
  · simp only [if_neg hc] at h ⊢
    have d1 : ws.drop (s.2 + 1) = fig k :: zv := by
      have := congrArg (List.drop 1) h
      rw [List.drop_drop] at this
      exact this
    have hh : xn ws s.2 = fig k := by
      unfold xn
      rw [d1]
      rfl
    refine ⟨by rw [if_pos ⟨by rw [h]; rfl, by rw [hh]; exact XG (by omega) hk⟩, hh, (kG hk).2.1], ?_⟩
    have := congrArg (List.drop 2) h
    rw [List.drop_drop] at this
    exact this
theorem Yv : wrdB ≠ wrdU ∧ wrdB ≠ wrdT ∧ wrdB ≠ wrdF ∧ wrdB ≠ wrdK ∧ wrdU ≠ wrdT ∧ wrdU ≠ wrdF ∧ wrdU ≠ wrdK ∧ wrdT ≠ wrdF ∧ wrdT ≠ wrdK ∧ wrdF ≠ wrdK ∧ (∀ w ∈ [wrdB, wrdU, wrdT, wrdF, wrdK, Str.ofString "plain"], w.cps.toList.length ≠ 1) ∧ (∀ w ∈ [wrdB, wrdU, wrdT, wrdF, wrdK], w ≠ Str.ofString "plain") := by decide +kernel
theorem Uz {n : Nat} (h0 : n ≠ 0) (h : n < 512) : uX (wl n) = some n := by
  obtain ⟨n1, n2, n3, n4, n5, n6, n7, n8, n9, n10, nl, _⟩ := Yv
  have nf : ∀ w ∈ [wrdB, wrdU, wrdT, wrdF, wrdK, Str.ofString "plain"], ∀ k, w ≠ fig k := fun w hw k e => nl w hw (by rw [e]; rfl)
  have hd : (wl n).drop 0 = (if n / 64 % 2 = 1 then [wrdB] else []) ++ ((if n / 128 % 2 = 1 then [wrdU] else []) ++ ((if n / 256 % 2 = 1 then [wrdT] else []) ++ ((if n % 8 = 0 then [] else [wrdF, fig (n % 8)]) ++ ((if n / 8 % 8 = 0 then [] else [wrdK, fig (n / 8 % 8)]) ++ [])))) := by
    unfold wl bun
    by_cases c1 : n / 64 % 2 = 1 <;> by_cases c2 : n / 128 % 2 = 1 <;> by_cases c3 : n / 256 % 2 = 1 <;> by_cases c4 : n % 8 = 0 <;> by_cases c5 : n / 8 % 8 = 0 <;> simp [c1, c2, c3, c4, c5]
  have m5 : wrdK ∉ ([] : List Str) := by simp
  have m4 : wrdF ∉ (if n / 8 % 8 = 0 then [] else [wrdK, fig (n / 8 % 8)]) ++ ([] : List Str) := by
    split <;> simp [n10, nf wrdF (by simp)]
  have m3 : wrdT ∉ (if n % 8 = 0 then [] else [wrdF, fig (n % 8)]) ++ ((if n / 8 % 8 = 0 then [] else [wrdK, fig (n / 8 % 8)]) ++ ([] : List Str)) := by
    split <;> split <;> simp [n8, n9, nf wrdT (by simp)]
  have m2 : wrdU ∉ (if n / 256 % 2 = 1 then [wrdT] else []) ++ ((if n % 8 = 0 then [] else [wrdF, fig (n % 8)]) ++ ((if n / 8 % 8 = 0 then [] else [wrdK, fig (n / 8 % 8)]) ++ ([] : List Str))) := by
    split <;> split <;> split <;> simp [n5, n6, n7, nf wrdU (by simp)]
  have m1 : wrdB ∉ (if n / 128 % 2 = 1 then [wrdU] else []) ++ ((if n / 256 % 2 = 1 then [wrdT] else []) ++ ((if n % 8 = 0 then [] else [wrdF, fig (n % 8)]) ++ ((if n / 8 % 8 = 0 then [] else [wrdK, fig (n / 8 % 8)]) ++ ([] : List Str)))) := by
    split <;> split <;> split <;> split <;> simp [n1, n2, n3, n4, nf wrdB (by simp)]
  obtain ⟨e1, d1⟩ := uZ (s := (0, 0)) (v := 64) hd m1
  obtain ⟨e2, d2⟩ := uZ (s := (0 + (if n / 64 % 2 = 1 then 64 else 0), 0 + (if n / 64 % 2 = 1 then 1 else 0))) (v := 128) d1 m2
  obtain ⟨e3, d3⟩ := uZ (v := 256) (s := ((0 + (if n / 64 % 2 = 1 then 64 else 0)) + (if n / 128 % 2 = 1 then 128 else 0), (0 + (if n / 64 % 2 = 1 then 1 else 0)) + (if n / 128 % 2 = 1 then 1 else 0))) d2 m3
  obtain ⟨e4, d4⟩ := kJ (v := 1) (s := (((0 + (if n / 64 % 2 = 1 then 64 else 0)) + (if n / 128 % 2 = 1 then 128 else 0)) + (if n / 256 % 2 = 1 then 256 else 0), ((0 + (if n / 64 % 2 = 1 then 1 else 0)) + (if n / 128 % 2 = 1 then 1 else 0)) + (if n / 256 % 2 = 1 then 1 else 0))) (by omega) d3 m4
  obtain ⟨e5, d5⟩ := kJ (v := 8) (s := ((((0 + (if n / 64 % 2 = 1 then 64 else 0)) + (if n / 128 % 2 = 1 then 128 else 0)) + (if n / 256 % 2 = 1 then 256 else 0)) + 1 * (n % 8), (((0 + (if n / 64 % 2 = 1 then 1 else 0)) + (if n / 128 % 2 = 1 then 1 else 0)) + (if n / 256 % 2 = 1 then 1 else 0)) + (if n % 8 = 0 then 0 else 2))) (by omega) d4 m5
  have hS : zW (wl n) = (((((0 + (if n / 64 % 2 = 1 then 64 else 0)) + (if n / 128 % 2 = 1 then 128 else 0)) + (if n / 256 % 2 = 1 then 256 else 0)) + 1 * (n % 8)) + 8 * (n / 8 % 8), ((((0 + (if n / 64 % 2 = 1 then 1 else 0)) + (if n / 128 % 2 = 1 then 1 else 0)) + (if n / 256 % 2 = 1 then 1 else 0)) + (if n % 8 = 0 then 0 else 2)) + (if n / 8 % 8 = 0 then 0 else 2)) := by
    unfold zW
    rw [e1, e2, e3, e4, e5]
  have hnum : (zW (wl n)).1 = n := by
    rw [hS]
    simp only
    split <;> split <;> split <;> omega
  have hlen : (wl n).length ≤ (zW (wl n)).2 := by
    rw [hS]
    exact List.drop_eq_nil_iff.1 d5
  have hpos : (zW (wl n)).2 ≠ 0 := by
    have := Zu h0 h
    have : 0 < (wl n).length := List.length_pos_iff.2 this
    omega
  unfold uX
  rw [if_neg (by omega), hnum]
theorem uq {n : Nat} (h : n < 512) : yo (zA n) = some n := by
  by_cases h0 : n = 0
  · subst h0
    rfl
  · unfold yo
    rw [if_neg, vi h0 h, Uz h0 h]
    intro e
    have e2 := vi h0 h
    rw [e, vx] at e2
    have hm : Str.ofString "plain" ∈ wl n := by rw [← e2]; simp
    obtain ⟨_, _, _, _, _, _, _, _, _, _, nl, np⟩ := Yv
    unfold wl at hm
    obtain ⟨l, hl, hw⟩ := List.mem_flatten.1 hm
    have nfp : ∀ k, Str.ofString "plain" ≠ fig k := fun k e => nl (Str.ofString "plain") (by simp) (by rw [e]; rfl)
    unfold bun at hl
    simp only [List.mem_append] at hl
    rcases hl with (((hl | hl) | hl) | hl) | hl <;> split at hl <;> simp at hl <;> subst hl <;> simp at hw
    · exact np wrdB (by simp) hw.symm
    · exact np wrdU (by simp) hw.symm
    · exact np wrdT (by simp) hw.symm
    · rcases hw with hw | hw
      · exact np wrdF (by simp) hw.symm
      · exact nfp _ hw
    · rcases hw with hw | hw
      · exact np wrdK (by simp) hw.symm
      · exact nfp _ hw
end L2
namespace L2
open PySem PySem.Spec PyProof.Rows
theorem Vy {T1 T2 U : TSW} {D : EndsW} {ρ : WS} {O : OM} (J : WS → OM → Prop) (ht : ∀ R : WS → OM → Prop, (∀ ρ' O', J ρ' O' → R ρ' O') → yG T1 T2 { D with nx := R } ρ O) (hu : ∀ ρ' O', J ρ' O' → U D ρ' O') : yG T1 (yG T2 U) D ρ O := ht (U D) hu
end L2
namespace Att
open PySem PySem.W PySem.Calls PyProof.Rows
theorem XH {i : Int} (x : (WData.int i).layable = true) : L2.Bt 1048576 i := by
  have h := (layableW_iff.mp x).2.2
  simp only [WData.weight] at h
  unfold L2.Bt
  by_cases hi : i = 0
  · subst hi
    exact Nat.two_pow_pos _
  · have hn : i.natAbs ≠ 0 := by omega
    simp only [beq_iff_eq, hi, if_false] at h
    exact (Nat.log2_lt hn).mp (by
      have e : (2 : Nat) ^ 20 = 1048576 := by decide
      omega)
theorem attB {l : OpenLaw} {n : Nat} {q : Program} {loose : List Str} {XP : (Str → Option Value) → Heap → Prop} {YP : World → Heap → Prop} {d : DefRec}
    (hn : l.most = some n) (hdf : d.params.defaults = [])
    (call : ∀ (w : World) (s₀ s₁ : Shared) (mg mb : Str → Option Value) (fa a : Addr) (vs : List Value) (ns : List Int), Ground q loose [] XP w s₀ mg mb s₁.heap → YP w s₁.heap → mg d.name = some (.ref fa) →
      s₁.heap.get? a = some { cls := .type "list", data := .seq vs.toArray } → IntsAre vs ns → ns.length ≤ n → (∀ i ∈ ns, L2.Bt 1048576 i) → s₁.gens = #[] →
      codeAny (model l.prog w) callerA (.call (.ref fa) ⟨[.ref a], []⟩) (fun r s' => r = .ok (.ret (.bool true)) ∧ OldK s₁.heap s'.heap ∧ s'.os = s₁.os ∧ AllBare s'.gens) s₁) :
    WalkO q loose XP YP l.row.toRowW d [] (fun f vs => PySem.call f vs) := by
  intro w s₀ s₁ mg mb G Y fa o pm cd doc dV kV ho hd hcd hD hm hg args vals as hp hy hr hw hl
  cases Dflts.none hD hdf
  cases Dflts.noKw hD
  obtain ⟨a, vs, ns, e1, e2, hb, hi, hk⟩ := ZQ hn hp hw
  subst e1
  subst e2
  have bits : ∀ i ∈ ns, L2.Bt 1048576 i := fun i h => XH (layableW_item (layableW_arg hy _ List.mem_cons_self) _ (List.mem_map.2 ⟨i, h, rfl⟩))
  refine enter_call (codeAny_mono (call w s₀ s₁ mg mb fa a vs ns G Y hm hb hi hk bits hg) ?_)
  rintro r s' ⟨rfl, c2, c3, c4⟩
  refine ⟨.inl ⟨.bool true, .bool true, [], rfl, fun _ => rfl, .bool true, ZR l _, fun _ => ⟨List.Pairwise.nil, fun _ z => ?_⟩⟩, c2, c3, c4⟩
  cases z
end Att
namespace L2
open PySem PySem.Spec PyProof.Rows
theorem walkW {l : PySem.W.OpenLaw} {n k : Nat} {q : Program} {loose : List Str} {XP : (Str → Option Value) → Heap → Prop} {YP : World → Heap → Prop} {d : DefRec} {K : Params → PySem.W.Frag} {x : Str} {s : SpW} (hn : l.most = some n) (hn2 : n ≤ 1000) (hdf : d.params.defaults = []) (hr : Room k callerA)
    (hY : ∀ (w : World) (h : Heap), YP w h → (K w.params).In h)
    (F : ∀ (w : World) (mg : Str → Option Value) (fa : Addr) (h : Heap), (K w.params).In h → h.Ns mainGlobals mg → mg d.name = some (.ref fa) →
      ∃ fd : FuncData, (∀ (s : Shared) (u : Value), BindsTo s fd ⟨[u], []⟩ [(x, u)]) ∧ ∀ base : Heap, (K w.params).In base → base.Ns mainGlobals mg → FnOk l.prog w (K w.params) mg base CX0 k fa fd [x] (zf (K w.params) s))
    (hs : ∀ (ns : List Int) (O : OM) (R : WK), ns.length ≤ n → (∀ i ∈ ns, Bt 1048576 i) → (∀ O', R (.d (.bool true)) O') → s [.d (.list (ns.map .int))] O R) :
    PySem.W.WalkO q loose XP YP l.row.toRowW d [] (fun f vs => PySem.call f vs) := by
  refine Att.attB hn hdf fun w s₀ s₁ mg mb fa a vs ns G Y hm hb hi hk bits hg => ?_
  obtain ⟨fd, e1, e2⟩ := F w mg fa _ (hY w _ Y) G.T.g hm
  refine YR (hY w _ Y) G.T.g G.T.b G.T.builtins G.T.nolimit hg hb hi (Nat.le_trans hk (Nat.le_trans hn2 (by decide))) hr e2 e1 (fun H hO hS => ?_) fun _ _ _ z => z
  refine ⟨⟨H, fun _ => none, fun _ => none⟩, fun _ => none, [.d (.list (ns.map .int))], fun w _ => w = .d (.bool true), ?_, .cons ⟨a, _, rfl, hS, qr ns⟩ .nil, hs ns _ _ hk bits fun _ => rfl, ?_⟩
  · exact ⟨Same.refl _, fun _ _ e => (by cases e), fun _ _ e => (by cases e), fun _ _ e => (by cases e), fun _ _ e => (by cases e), fun _ _ e => (by cases e), fun _ _ e => (by cases e), fun _ _ _ _ _ _ _ e => (by cases e)⟩
  · rintro Γ' O' H' w v _ _ r rfl
    exact r
end L2
namespace K02
open PySem L2
local macro_rules | `(tactic| walk_at "ref") => `(tactic| repeat' (first
  | with_reducible exact Qx
  | with_reducible exact VR
  | with_reducible exact VS
  | with_reducible exact U5
  | with_reducible exact VT
  | with_reducible apply U6
  | with_reducible exact Jj
  | with_reducible exact Jk
  | with_reducible exact QJ
  | with_reducible exact QK
  | with_reducible exact Qy
  | with_reducible exact Qz
  | with_reducible exact Jb
  | with_reducible exact Jg
  | with_reducible exact JI
  | with_reducible exact Qs
  | with_reducible exact QM
  | exact Ji (fun _ _ => rfl)
  | exact JJ (fun _ _ => rfl)
  | with_reducible apply Y9
  | with_reducible apply Xa
  | with_reducible apply U9
  | with_reducible apply kt
  | with_reducible apply Jl
  | with_reducible apply VU
  | with_reducible apply U8
  | with_reducible apply VV
  | with_reducible apply Xr
  | with_reducible exact VX
  | with_reducible apply Uh
  | with_reducible apply Xd
  | with_reducible exact Qo rfl
  | with_reducible exact Qw
  | with_reducible apply VZ
  | with_reducible apply V0
  | with_reducible apply Xo
  | with_reducible exact Yk
  | with_reducible apply XA
  | with_reducible apply XD
  | with_reducible exact QR
  | with_reducible apply Uo
  | with_reducible apply Zm
  | with_reducible apply Z4
  | with_reducible apply Qc
  | with_reducible exact QN
  | with_reducible exact Qv
  | with_reducible exact Qd
  | with_reducible exact Jm
  | with_reducible exact Qe
  | with_reducible exact QD
  | with_reducible apply Ud
  | with_reducible apply V8
  | with_reducible exact Zi
  | with_reducible apply Xp
  | with_reducible apply Ql
  | with_reducible apply V9
  | with_reducible apply Qn
  | with_reducible exact Xn
  | with_reducible exact QC
  | with_reducible exact Uc
  | with_reducible apply Xu
  | with_reducible apply Xv
  | with_reducible apply Zl
  | with_reducible apply Yd
  | with_reducible apply Zn
  | with_reducible apply Xw
  | with_reducible apply Xt
  | with_reducible apply Uf
  | with_reducible apply V2
  | with_reducible exact Xg
  | with_reducible apply Xh
  | with_reducible apply V3
  | with_reducible apply V4
  | with_reducible apply V5
  | with_reducible exact Xj
  | with_reducible apply Xl
  | with_reducible exact Xk
  | with_reducible apply Z0
  | with_reducible apply V6
  | with_reducible apply Zr
  | with_reducible apply Z1
  | with_reducible apply Xm
  | with_reducible apply Z2))
local macro_rules | `(tactic| walk_at "wd") => `(tactic| ((try dsimp only [vf, List.getElem?_cons_zero, List.getElem?_cons_succ, wC, wOp, vI0, vI, wUn, vU, vEq, vNe, Zj, Vg, uf, Z5, Y7, wOr, Y8, wIf, Ze, qN, wCs, qO, wCB, vI2, QB, Vh, Z6, Z7, yG, qP, uc, Zf, Jd, jr, Xi, ud, ofV, Zh, List.set, List.map, yf, List.append, List.nil_append, List.cons_append]); try simp [Yl, Vs, Vu, Vw, wCD, XB, Zt, Vp, Vq, QL, isN, Yg, kw, Yh, ky, Yi, okN, Vr, Yj, jz, jy, Yc, vf, wC, wOp, vI0, vI, vU, vEq, vNe, Zj, Vg, Xs, U7, Qq, wIn, Vd, Z5, X2, QF, Vi, Ya, Vj, X3, wIf, uf, Y7, wOr, Y8, Xc, Ze, qN, wCs, Qa, Qb, Va, qO, wCB, Xf, X4, vI2, X5, Qp, kn, Vb, QB, Z6, wBM, uP, yG, qP, uc, Zf, jr, Xi, ud, Qg, Qf, X6, Vh, Z7, Qk, X7, Qi, X8, wLc, Qu, Zg, zZ, yf, ofV, vOf, scD, x8, ub, JE, yz, Zh, Zd, jq, tyD, isI, zQ, and_assoc, wCR, Ue, zp, ZY]))
noncomputable def top (i : Nat) : Stmt := PySem.Challenge.pw_signscreen_k02_ink_texts.main.body.getD i (.Pass ⟨0, 0, 0, 0⟩)
local macro_rules | `(tactic| walk_at "sc") => `(tactic| exact ⟨rfl, rfl, rfl, by decide +kernel, rfl, by decide +kernel, by decide +kernel⟩)
noncomputable abbrev vj : Stmt := top 11
theorem Zv : FnScope ["ink"] ["ink"] (defScope vj) := by walk_at "sc"
noncomputable abbrev vk : Stmt := top 12
theorem Zw : FnScope ["ink"] ["ink"] (defScope vk) := by walk_at "sc"
noncomputable abbrev yY : Stmt := top 13
theorem vy : FnScope ["ink", "words", "word", "hue"] ["ink"] (defScope yY) := by walk_at "sc"
noncomputable abbrev xo : Stmt := top 14
theorem x0 : FnScope ["words", "ink", "ahead", "word"] ["words"] (defScope xo) := by walk_at "sc"
noncomputable abbrev yU : Stmt := top 15
theorem xN : FnScope ["text", "ink"] ["text"] (defScope yU) := by walk_at "sc"
noncomputable abbrev vm : Stmt := top 17
theorem ur : FnScope ["_law_script", "_law_k", "_law_cell", "_law_number"] ["_law_script", "_law_k"] (defScope vm) := by walk_at "sc"
noncomputable abbrev xq : Stmt := top 18
theorem qI : FnScope ["_law_thing"] ["_law_thing"] (defScope xq) := by walk_at "sc"
noncomputable abbrev yO : Stmt := top 19
theorem vn : FnScope ["_law_ink_here", "_law_words"] ["_law_ink_here"] (defScope yO) := by walk_at "sc"
noncomputable abbrev xW : Stmt := top 20
theorem vz : FnScope ["_law_text_here", "_law_words", "_law_found", "_law_at_here", "_law_k", "_law_hue"] ["_law_text_here"] (defScope xW) := by walk_at "sc"
noncomputable abbrev xA : Stmt := top 21
theorem vo : FnScope ["_law_text_here", "_law_cell", "_law_words", "_law_at_here", "_law_place", "_law_sign", "_law_some", "_law_other"] ["_law_text_here", "_law_cell"] (defScope xA) := by walk_at "sc"
noncomputable abbrev yD : Stmt := top 22
theorem x3 : FnScope ["_law_error", "_law_kinds"] ["_law_error"] (defScope yD) := by walk_at "sc"
noncomputable abbrev yJ : Stmt := top 23
theorem xy : FnScope ["_law_thing", "_law_error"] ["_law_thing"] (defScope yJ) := by walk_at "sc"
noncomputable abbrev xt : Stmt := top 24
theorem x4 : FnScope ["_law_text_here", "_law_due", "_law_found"] ["_law_text_here"] (defScope xt) := by walk_at "sc"
noncomputable abbrev Zx : Stmt := top 25
theorem Yw : FnScope ["_law_script", "_law_kept", "_law_k", "_law_ink_here", "_law_told", "_law_bent_here", "_law_twice", "_law_odd"] ["_law_script"] (defScope Zx) := by walk_at "sc"
structure Txt (P : Program) (w : World) (K : PySem.W.Frag) (mg : Str → Option Value) (bw sw hf : Addr) : Prop where
  n_len : mg "len" = none
  n_range : mg "range" = none
  n_int : mg "int" = none
  n_bool : mg "bool" = none
  n_str : mg "str" = none
  n_isinstance : mg "isinstance" = none
  n_min : mg "min" = none
  g_BITS_BY_WORD : mg "BITS_BY_WORD" = some (.ref bw)
  g_STEPS_BY_WORD : mg "STEPS_BY_WORD" = some (.ref sw)
  g_HUE_FIGURES : mg "HUE_FIGURES" = some (.ref hf)
  d_bw : DS P w K bw bitsD
  d_sw : DS P w K sw stepsD
  t_hf : ∃ o, K.lookup hf = some o ∧ o.cls = .type "tuple" ∧ o.dict = none
  q_hf : ∀ Z : Hp, SqT K Z hf (figs.map V.str)
structure TxtX (K : PySem.W.Frag) (mg : Str → Option Value) (se bp bs bi ba un : Addr) : Prop where
  c_ScreenError : mg "ScreenError" = some (.ref se)
  c_BadPicture : mg "BadPicture" = some (.ref bp)
  c_BadSize : mg "BadSize" = some (.ref bs)
  c_BadInk : mg "BadInk" = some (.ref bi)
  c_BadPaper : mg "BadPaper" = some (.ref ba)
  c_Unlike : mg "Unlike" = some (.ref un)
  n_ve : mg "ValueError" = none
  x_BadInk : XMake K bi
  y_BadInk : XClass K bi
  i_se : PySem.W.exmOne K (.ref bi) (.ref se) = some true
  i_bp : PySem.W.kitOne K (.ref bi) (.ref bp) = some false
  i_bs : PySem.W.kitOne K (.ref bi) (.ref bs) = some false
  i_bi : PySem.W.kitOne K (.ref bi) (.ref bi) = some true
  i_ba : PySem.W.kitOne K (.ref bi) (.ref ba) = some false
  i_un : PySem.W.kitOne K (.ref bi) (.ref un) = some false
  i_ve : PySem.W.kitOne K (.ref bi) (.type "ValueError") = some true
noncomputable def marksL (n : Nat) : List Str := (if n / 64 % 2 = 1 then [wrdB] else []) ++ (if n / 128 % 2 = 1 then [wrdU] else []) ++ (if n / 256 % 2 = 1 then [wrdT] else [])
noncomputable def pieces (n : Nat) : List Str := marksL n ++ (if n % 8 = 0 then [] else [wrdF ++ sp1 ++ fig (n % 8)]) ++ (if n / 8 % 8 = 0 then [] else [wrdK ++ sp1 ++ fig (n / 8 % 8)])
theorem UA (w : Str) : Str.join sp1 [w] = w := rfl
theorem UB (w v : Str) : Str.join sp1 [w, v] = w ++ sp1 ++ v := rfl
theorem ut (n : Nat) : pieces n = (bun n).map (Str.join sp1) := by
  unfold pieces marksL bun
  by_cases c1 : n / 64 % 2 = 1 <;> by_cases c2 : n / 128 % 2 = 1 <;> by_cases c3 : n / 256 % 2 = 1 <;> by_cases c4 : n % 8 = 0 <;> by_cases c5 : n / 8 % 8 = 0 <;> simp [c1, c2, c3, c4, c5, UA, UB]
theorem xX {n : Nat} (h : n < 512) : (pieces n).isEmpty = decide (n = 0) := by
  rw [ut]
  by_cases h0 : n = 0
  · subst h0; rfl
  · rw [decide_eq_false h0]
    cases hb : bun n with
    | nil =>
      have := Zu h0 h
      unfold wl at this
      rw [hb] at this
      exact absurd rfl this
    | cons a l => rfl
theorem uu {n : Nat} : zA n = if n = 0 then Str.ofString "plain" else Str.join sp1 (pieces n) := by
  unfold zA
  rw [ut]
theorem vO : ∀ n : _root_.Fin 512, (n.val &&& 64 = 0 ↔ ¬ n.val / 64 % 2 = 1) ∧ (n.val &&& 128 = 0 ↔ ¬ n.val / 128 % 2 = 1) ∧ (n.val &&& 256 = 0 ↔ ¬ n.val / 256 % 2 = 1) ∧ n.val &&& 7 = n.val % 8 ∧ (n.val / 8) &&& 7 = n.val / 8 % 8 := by decide +kernel
theorem u3 : ∀ k : _root_.Fin 8, Str.ofString ((k.val : Int).repr) = fig k.val := by decide +kernel
theorem QV : ∀ z ∈ figs, figs[yc z]? = some z ∧ ∀ i, i < yc z → figs[i]? ≠ some z := by decide +kernel
theorem QW (z : Str) : inV (V.str z) (List.map vOf (figs.map PyData.str)) = decide (z ∈ figs) := by
  rw [List.map_map]
  have e : List.map (vOf ∘ PyData.str) figs = figs.map V.str := rfl
  rw [e]
  unfold inV
  rw [List.any_map, Bool.eq_iff_iff, List.any_eq_true, decide_eq_true_iff]
  constructor
  · rintro ⟨y, hy, hz⟩
    have : y = z := by simpa [eqV] using hz
    rw [← this]
    exact hy
  · intro hz
    exact ⟨z, hz, by simp [eqV]⟩
theorem Yx (a : Str) : Str.empty ++ a = a := by
  apply uT
  rw [zJ]
  rfl
noncomputable def qR : SpW := fun ws O R => ∃ n : Nat, ws = [.d (.int n)] ∧ n < 512 ∧ R (.d (.int (n % 8 : Nat))) O
noncomputable def qS : SpW := fun ws O R => ∃ n : Nat, ws = [.d (.int n)] ∧ n < 512 ∧ R (.d (.int (n / 8 % 8 : Nat))) O
noncomputable def QX : SpW := fun ws O R => ∃ n : Nat, ws = [.d (.int n)] ∧ n < 512 ∧ ∀ O', Old O O' → R (.d (.str (zA n))) O'
noncomputable def qT : SpW := fun ws O R => ∃ n : Nat, ws = [.d (.int n)] ∧ n < 512 ∧ R (.d (.str (zA n))) O
noncomputable def XI : SpW := fun ws O R => ∃ zs : List Str, ws = [.d (.list (zs.map .str))] ∧ R (.d (.int (lik zs : Nat))) O
noncomputable def XJ : SpW := fun ws O R => ∃ ns : List Int, ∃ k : Int, ws = [.d (.list (ns.map .int)), .d (.int k)] ∧ 0 ≤ k ∧ k ≤ 2000 ∧ ∀ n : Int, 0 ≤ n → n ≤ 333334 → R (.d (.int n)) O
noncomputable def u4 : SpW := fun ws O R => ∃ i : Int, ws = [.d (.int i)] ∧ R (.d (.bool true)) O
section
variable {P : Program} {w : World} {K : PySem.W.Frag} {mg : Str → Option Value} {base : Heap} {f : Addr} {fd : FuncData} {bw sw hf : Addr}
theorem Zy (F : Fun K "fore_of" "fore_of" vj f fd) (T : Txt P w K mg bw sw hf) : FnOk P w K mg base CX0 1 f fd ["ink"] (zf K qR) := by
  apply F.okV Zv (by rintro _ _ _ ⟨a, rfl, _⟩; rfl) (fun cdv A outer sh H E hr => (zg (zq (zd qZ (pv 0) zb))))
  · walk_at "ref"
  rintro _ O R ⟨n, rfl, hn, h⟩
  walk_at "wd"
  have e : Builtin.bitAnd (n : Int) 7 = ((n % 8 : Nat) : Int) := by
    rw [← (vO ⟨n, hn⟩).2.2.2.1]
    exact xm n 7
  rw [e]
  exact .inl h
theorem Zz (F : Fun K "back_of" "back_of" vk f fd) (T : Txt P w K mg bw sw hf) : FnOk P w K mg base CX0 1 f fd ["ink"] (zf K qS) := by
  apply F.okV Zw (by rintro _ _ _ ⟨a, rfl, _⟩; rfl) (fun cdv A outer sh H E hr => (zg (zq (zd qZ (zd UP (pv 0) zb) zb))))
  · walk_at "ref"
  rintro _ O R ⟨n, rfl, hn, h⟩
  walk_at "wd"
  have e : Builtin.bitAnd ((n : Int) / 8) 7 = ((n / 8 % 8 : Nat) : Int) := by
    rw [← (vO ⟨n, hn⟩).2.2.2.2]
    exact xm (n / 8) 7
  rw [e]
  exact .inl h
theorem jG (F : Fun K "ink_text" "ink_text" yY f fd) (T : Txt P w K mg bw sw hf) (Ka : Cal P w K mg base 1 "fore_of" [] (zf K qR)) (J9 : Cal P w K mg base 1 "back_of" [] (zf K qS)) : FnOk P w K mg base CX0 2 f fd ["ink"] (zf K QX) := by
  have nd := vy.nd
  apply F.okV vy (by rintro _ _ _ ⟨a, rfl, _⟩; rfl) (fun cdv A outer sh H E hr => (zc (qu (i := 1) nd rfl rfl (YX (N := ["word", "bit", "ink"]) (n := 2) (js := [0])) rfl (Yp (K := K) (P := P) (w := w) rfl rfl rfl (z0 (v := .ref bw) (u := .ref bw) rfl T.g_BITS_BY_WORD rfl)) (fun _ _ _ _ => (uR (K := K) (n := 2) rfl rfl (yE (zS (i := 0) (show List.Nodup (["word", "bit", "ink"] : List Str) by decide +kernel) rfl (Or.inl rfl)) (yE (zS (i := 1) (show List.Nodup (["word", "bit", "ink"] : List Str) by decide +kernel) rfl (Or.inl rfl)) uB)))) (fun _ _ _ _ => (uH (qw (K := K) rfl (zd qZ (pv 2) (pv 1)) (fun _ => rfl)))) (fun _ _ _ _ => (pv 0)))
      (zc (x6 PassesOwn.never rfl (Ua (K := K) rfl (xJ (qc (xJ (qc zn (qc (zE Ka (hr.mono (by decide)) rfl (QA.pa (qc (pv 0) qn))) qn))) (qc (xJ (qc zn (qc (zE J9 (hr.mono (by decide)) rfl (QA.pa (qc (pv 0) qn))) qn))) qn)))) (uR (K := K) (n := 2) rfl rfl (yE (zS (i := 2) nd rfl (Or.inl rfl)) (yE (zS (i := 3) nd rfl (Or.inl rfl)) uB)))
      (zg (zL (zr kX (pv 3) zb (zt _)) (zg (yZ (zV (K := K) rfl PySem.F.plainAttrs_list PySem.F.slot_list_append PySem.F.type_list_append yt (pv 1) (QA.pa (qc (QP (pv 2) (pv 3) (by decide)) qn))))) zu)))
      (zg (zq (YF (qw (K := K) rfl (pv 1) (fun _ => rfl)) (zV (K := K) rfl PySem.F.plainAttrs_str PySem.F.slot_str_join PySem.F.type_str_join (y9 (K := K) rfl) zn (QA.pa (qc (pv 1) qn))) zn))))))
  · walk_at "ref"
  rintro _ O R ⟨n, rfl, hn, h⟩
  obtain ⟨a1, a2, a3, _, _⟩ := vO ⟨n, hn⟩
  refine yg (fun ρ' O' => ∃ p, ρ' = [some (.d (.int n)), some (.own p), none, none] ∧ O' p = some (.lst ((marksL n).map zR)) ∧ O p = none ∧ Old O O') (fun R1 hR1 => ?_) ?_
  · walk_at "wd"
    refine ⟨bitsD, T.d_bw, by decide, fun v => match v with | .d (.tuple [.str z, .int b]) => if Builtin.bitAnd (n : Int) b = 0 then none else some (.str z) | _ => none, ?_, fun p hp => ?_⟩
    · rintro _ z b hz rfl us hu
      obtain ⟨u1, u2, rfl⟩ : ∃ a b, us = [a, b] := by
        match us, hu with
        | [a, b], _ => exact ⟨a, b, rfl⟩
      refine ⟨_, rfl, rfl, _, _, rfl, _, _, rfl, rfl, rfl, rfl, ?_⟩
      show if Builtin.bitAnd (n : Int) b = 0 then _ else _
      split
      · rename_i q
        show none = Option.map W.d (if Builtin.bitAnd (n : Int) b = 0 then none else some (.str z))
        rw [if_pos q]
        rfl
      · rename_i q
        show some (W.d (.str z)) = Option.map W.d (if Builtin.bitAnd (n : Int) b = 0 then none else some (.str z))
        rw [if_neg q]
        rfl
    · refine hR1 _ _ ⟨p, rfl, ?_, hp, Old.upd Old.refl hp⟩
      rw [zp]
      have b1 : (Builtin.bitAnd (n : Int) 64 = 0) = ¬ n / 64 % 2 = 1 := by
        rw [show (64 : Int) = ((64 : Nat) : Int) from rfl, xm]
        exact propext ⟨fun z => a1.1 (by exact_mod_cast z), fun z => by exact_mod_cast a1.2 z⟩
      have b2 : (Builtin.bitAnd (n : Int) 128 = 0) = ¬ n / 128 % 2 = 1 := by
        rw [show (128 : Int) = ((128 : Nat) : Int) from rfl, xm]
        exact propext ⟨fun z => a2.1 (by exact_mod_cast z), fun z => by exact_mod_cast a2.2 z⟩
      have b3 : (Builtin.bitAnd (n : Int) 256 = 0) = ¬ n / 256 % 2 = 1 := by
        rw [show (256 : Int) = ((256 : Nat) : Int) from rfl, xm]
        exact propext ⟨fun z => a3.1 (by exact_mod_cast z), fun z => by exact_mod_cast a3.2 z⟩
      unfold bitsD marksL
      by_cases c1 : n / 64 % 2 = 1 <;> by_cases c2 : n / 128 % 2 = 1 <;> by_cases c3 : n / 256 % 2 = 1 <;> simp [b1, b2, b3, c1, c2, c3, zR, wrdB, wrdU, wrdT]
  rintro _ O1 ⟨p, rfl, hp, hpn, ho1⟩
  refine yg (fun ρ' O' => ∃ v1 v2, ρ' = [some (.d (.int n)), some (.own p), v1, v2] ∧ O' p = some (.lst ((pieces n).map zR)) ∧ Old O O') (fun R1 hR1 => ?_) ?_
  · walk_at "wd"
    refine ⟨n, rfl, hn, _, ⟨_, rfl, rfl⟩, (by show (2 : Nat) ≤ 1000; decide), n, rfl, hn, _, ⟨_, rfl, rfl⟩, (by show (2 : Nat) ≤ 1000; decide), ?_⟩
    have ml : (marksL n).length ≤ 3 := by
      unfold marksL
      simp only [List.length_append]
      split <;> split <;> split <;> simp
    have step : ∀ (wd : Str) (k : Nat) (v1 v2 : Option W) (O2 : OM) (L : List Str) (R2 : WS → OM → Prop), wd.length ≤ 10 → k < 8 → L.length ≤ 10 → O2 p = some (.lst (L.map zR)) → Old O O2 → (∀ O3 v1 v2, Old O O3 → O3 p = some (.lst ((L ++ (if k = 0 then [] else [wd ++ sp1 ++ fig k])).map zR)) → R2 [some (.d (.int n)), some (.own p), v1, v2] O3) →
        jr (uf (wOp vNe (vf 3) (wC (PyData.int 0)))) (uc (wBM "list" uP (vf 1) (qN (XB (vf 2) (Str.ofString " ") (vf 3)) Ze))) qP { nx := R2, rt := Clo R, bk := R1, ct := R2 } [some (.d (.int n)), some (.own p), some (.d (.str wd)), some (.d (.int k))] O2 := by
      intro wd k v1 v2 O2 L R2 hwd hk hL hO ho2 hR2
      walk_at "wd"
      split
      · rename_i q
        refine hR2 _ _ _ ho2 ?_
        rw [if_pos q, List.append_nil]
        exact hO
      · rename_i q
        have ef := u3 ⟨k, hk⟩
        simp only at ef
        rw [ef, Yx]
        refine ⟨.inl ⟨rfl, by simp [zB, hO]⟩, by omega, by omega, (by show (1 : Nat) ≤ 1000; decide), updO O2 p (.lst ((L ++ [wd ++ sp1 ++ fig k]).map zR)), ?_, hR2 _ _ _ (ho2.upd hpn) ?_⟩
        · simp only [uO, hO]
          rw [if_pos (by rw [List.length_map]; omega), List.map_append]
          rfl
        · rw [zp, if_neg q]
    refine yB.by (fun i ρ O' => ∃ v1 v2, ρ = [some (.d (.int n)), some (.own p), v1, v2] ∧ O' p = some (.lst ((match i with | 0 => marksL n | 1 => marksL n ++ (if n % 8 = 0 then [] else [wrdF ++ sp1 ++ fig (n % 8)]) | _ => pieces n).map zR)) ∧ Old O O') ⟨_, _, rfl, hp, ho1⟩ (fun _ _ _ _ => trivial) ?_ ?_
    · rintro i x _ O2 hx ⟨v1, v2, rfl, hO, ho2⟩ R2 hR2
      match i, hx, hO, hR2 with
      | 0, hx, hO, hR2 =>
        cases hx
        refine ⟨_, rfl, rfl, _, _, rfl, _, _, rfl, rfl, ?_⟩
        exact step wrdF (n % 8) v1 v2 O2 (marksL n) R2 (by decide +kernel) (by omega) (by omega) hO ho2 fun O3 v1 v2 ho3 h3 => hR2 _ _ ⟨_, _, rfl, h3, ho3⟩
      | 1, hx, hO, hR2 =>
        cases hx
        refine ⟨_, rfl, rfl, _, _, rfl, _, _, rfl, rfl, ?_⟩
        exact step wrdK (n / 8 % 8) v1 v2 O2 (marksL n ++ (if n % 8 = 0 then [] else [wrdF ++ sp1 ++ fig (n % 8)])) R2 (by decide +kernel) (by omega) (by rw [List.length_append]; split <;> simp <;> omega) hO ho2 fun O3 v1 v2 ho3 h3 => hR2 _ _ ⟨_, _, rfl, h3, ho3⟩
      | i + 2, hx, hO, hR2 => cases hx
    · rintro _ O2 ⟨v1, v2, rfl, hO, ho2⟩
      exact hR1 _ _ ⟨v1, v2, rfl, hO, ho2⟩
  rintro _ O2 ⟨v1, v2, rfl, hp2, ho2⟩
  walk_at "wd"
  simp only [hp2, List.isEmpty_map, xX hn]
  by_cases h0 : n = 0
  · refine .inl ⟨by simp [h0], .inl ?_⟩
    have := h O2 ho2
    rw [uu, if_pos h0] at this
    exact this
  · refine .inr ⟨by simp [h0], .inr (.inl ⟨rfl, _, rfl⟩), pieces n, by simp only [zB, hp2], by decide +kernel, ?_, .inl ?_⟩
    · have pl : (pieces n).length ≤ 5 := by
        unfold pieces marksL
        simp only [List.length_append]
        split <;> split <;> split <;> split <;> split <;> simp
      have pw : ∀ q ∈ pieces n, q.length ≤ 20 := by
        have w1 : wrdB.length ≤ 20 ∧ wrdU.length ≤ 20 ∧ wrdT.length ≤ 20 ∧ wrdF.length ≤ 10 ∧ wrdK.length ≤ 10 ∧ sp1.length ≤ 1 := by decide +kernel
        obtain ⟨w1, w2, w3, w4, w5, w6⟩ := w1
        have lf : ∀ k, (fig k).length = 1 := fun k => rfl
        intro q hq
        unfold pieces marksL at hq
        simp only [List.mem_append] at hq
        rcases hq with (((hq | hq) | hq) | hq) | hq <;> split at hq <;> simp at hq <;> subst hq
        · exact w1
        · exact w2
        · exact w3
        · rw [strLen_append, strLen_append, lf]; omega
        · rw [strLen_append, strLen_append, lf]; omega
      have : ∀ L : List Str, (∀ q ∈ L, q.length ≤ 20) → (L.map (·.length)).sum ≤ 20 * L.length := by
        intro L
        induction L with
        | nil => simp
        | cons a L ih =>
          intro hL
          have := ih fun q hq => hL q (List.mem_cons_of_mem _ hq)
          have := hL a List.mem_cons_self
          simp only [List.map_cons, List.sum_cons, List.length_cons]
          omega
      have := this _ pw
      omega
    · have := h O2 ho2
      rw [uu, if_neg h0] at this
      rw [uS]
      exact this
theorem j6 (F : Fun K "ink_text" "ink_text" yY f fd) (T : Txt P w K mg bw sw hf) (Ka : Cal P w K mg base 1 "fore_of" [] (zf K qR)) (J9 : Cal P w K mg base 1 "back_of" [] (zf K qS)) : FnOk P w K mg base CX0 2 f fd ["ink"] (zf K qT) := by
  exact (jG F T Ka J9).forget fun ws O R ⟨n, e, hn, h⟩ => ⟨n, e, hn, fun O' ho => ⟨ho, h⟩⟩
theorem qJ (F : Fun K "likely_ink" "likely_ink" xo f fd) (T : Txt P w K mg bw sw hf) : FnOk P w K mg base CX0 1 f fd ["words"] (zf K XI) := by
  have nd := x0.nd
  apply F.okV x0 (by rintro _ _ _ ⟨a, rfl, _⟩; rfl) (fun cdv A outer sh H E hr => (zc (zm (i := 1) nd rfl (Or.inl rfl) zb)
      (zc (zm (i := 2) nd rfl (Or.inl rfl) zn)
      (zc (x6 PassesOwn.never rfl (ju (K := K) rfl (pv 0)) (zS (i := 3) nd rfl (Or.inl rfl))
      (zc (zm (i := 1) nd rfl (Or.inl rfl) (zd XT (pv 1) (jD (K := K) (P := P) (w := w) rfl rfl rfl (z0 (v := .ref bw) (u := .ref bw) rfl T.g_BITS_BY_WORD rfl) (QA.pa (qc (pv 3) (qc zb qn))))))
      (zc (zL (zr (Vc (K := K) rfl) (pv 3) (Jq rfl T.g_HUE_FIGURES) (by with_unfolding_all rfl)) (zg (zm (i := 1) nd rfl (Or.inl rfl) (zd XT (pv 1) (zd ya (Ur (K := K) rfl rfl T.g_HUE_FIGURES (QA.pa (qc (pv 3) qn))) (jD (K := K) (P := P) (w := w) rfl rfl rfl (z0 (v := .ref sw) (u := .ref sw) rfl T.g_STEPS_BY_WORD rfl) (QA.pa (qc (pv 2) (qc zb qn)))))))) zu)
      (zg (zm (i := 2) nd rfl (Or.inl rfl) (pv 3))))))
      (zg (zq (pv 1)))))))
  · walk_at "ref"
  rintro _ O R ⟨zs, rfl, h⟩
  walk_at "wd"
  have es : ∀ O' : OM, zB O' (.d (.list (zs.map PyData.str))) = some (zs.map zR) := fun O' => by
    show some (List.map W.d _) = _
    rw [List.map_map]
    rfl
  refine ⟨_, es O, ?_⟩
  refine yB.by (fun i ρ O' => O = O' ∧ ∃ v, ρ = [some (.d (.list (zs.map .str))), some (.d (.int (((zs.take i).foldl yh (0, Str.ofString "")).1 : Nat))), some (.d (.str ((zs.take i).foldl yh (0, Str.ofString "")).2)), v]) ⟨rfl, _, rfl⟩ (fun _ _ O' _ => es O') ?_ ?_
  · rintro i x _ _ hx ⟨rfl, v, rfl⟩ R2 hR2
    simp only [ud]
    generalize hr : (zs.take i).foldl yh (0, Str.ofString "") = r at *
    rw [List.getElem?_map] at hx
    cases hz : zs[i]? with
    | none => rw [hz] at hx; cases hx
    | some z =>
      rw [hz] at hx
      cases hx
      have nx : (zs.take (i + 1)).foldl yh (0, Str.ofString "") = yh r z := by
        rw [List.take_add_one, hz, List.foldl_append, hr]
        rfl
      unfold zR
      walk_at "wd"
      refine ⟨bitsD, T.d_bw, .tuple (figs.map .str), fun Z => ⟨hf, _, rfl, T.q_hf Z, ?_⟩, _, rfl, ?_, ?_⟩
      · exact vh figs
      · intro x hx
        obtain ⟨y, _, rfl⟩ := List.mem_map.1 hx
        rfl
      · rw [QW]
        rw [Us, kD]
        split
        · rename_i q
          have qz := of_decide_eq_true q
          obtain ⟨i1, i2⟩ := QV z qz
          have f8 := Yr qz
          refine ⟨T.t_hf, figs, T.q_hf, yc z, i1, i2, stepsD, T.d_sw, mulL (by omega) (by omega), ?_⟩
          rw [XE, ← Int.natCast_mul, kD]
          refine hR2 _ _ ⟨rfl, some (.d (.str z)), ?_⟩
          rw [nx]
          unfold yh
          rw [if_pos qz]
        · rename_i q
          have qz : z ∉ figs := fun m => q (decide_eq_true m)
          refine hR2 _ _ ⟨rfl, some (.d (.str z)), ?_⟩
          rw [nx]
          unfold yh
          rw [if_neg qz]
  · rintro _ _ ⟨rfl, v, rfl⟩
    rw [List.length_map, List.take_length]
    walk_at "wd"
    exact .inl h
end
theorem vw {O : OM} {ds : List PyData} : uN O (.d (.list ds)) = some ds.length := by simp [uN, yz, zB]
theorem QY {O : OM} {ds : List PyData} : zB O (.d (.list ds)) = some (ds.map W.d) := rfl
theorem uv {O : OM} {ds : List PyData} : vH O (.d (.list ds)) = some ds := by simp only [vH, yz, zB, Option.bind_some, zi]
theorem Jr {α : Type} {x : α} {l : List α} : atI (x :: l) 0 = some x := (y6 (j := 0) (xs := x :: l) rfl : atI (x :: l) ((0 : Nat) : Int) = some x)
noncomputable def byT : PyData → Option Nat
  | .str z => if zA (lik (Txt.split z sp1)) = z then some (lik (Txt.split z sp1)) else none
  | _ => none
noncomputable def jH : PyData → Prop
  | .str z => z.length ≤ 5000
  | _ => True
noncomputable def xc (bi : Addr) : SpX := fun ws O R Y => ∃ d, ws = [.d d] ∧ jH d ∧ (∀ n, byT d = some n → R (.d (.int (n : Nat))) O) ∧ (byT d = none → Y bi O)
noncomputable def okZ (z : Str) : Prop := z.length ≤ 5000 ∧ ∀ c ∈ z.cps.toList, c < 128
theorem kK : ∀ {A : List (List Nat)} {a : List Nat} {c : Nat}, a ∈ A → c ∈ a → c ∈ jnB A
  | [], _, _, h, _ => by cases h
  | [b], a, c, h, hc => by
    cases List.mem_singleton.1 h
    exact hc
  | b :: d :: r, a, c, h, hc => by
    show c ∈ b ++ 32 :: jnB (d :: r)
    rcases List.mem_cons.1 h with rfl | h
    · exact List.mem_append_left _ hc
    · exact List.mem_append_right _ (List.mem_cons_of_mem _ (kK h hc))
theorem Yy : ∀ {A : List (List Nat)} {c : Nat}, c ∈ jnB A → c = 32 ∨ ∃ a ∈ A, c ∈ a
  | [], _, h => by cases h
  | [b], c, h => .inr ⟨b, by simp, h⟩
  | b :: d :: r, c, h => by
    have h : c ∈ b ++ 32 :: jnB (d :: r) := h
    rcases List.mem_append.1 h with h | h
    · exact .inr ⟨b, by simp, h⟩
    · rcases List.mem_cons.1 h with h | h
      · exact .inl h
      · rcases Yy h with h | ⟨a, ha, hc⟩
        · exact .inl h
        · exact .inr ⟨a, List.mem_cons_of_mem _ ha, hc⟩
theorem jI {z : Str} (h : okZ z) : ∀ w ∈ Txt.split z sp1, ∀ c ∈ w.cps.toList, c < 128 := fun w hw c hc => by
  refine h.2 c ?_
  have e : z.cps.toList = jnB ((Txt.split z sp1).map (·.cps.toList)) := by rw [← yl, StrLaws.join_split]
  rw [e]
  exact kK (List.mem_map.2 ⟨w, hw, rfl⟩) hc
theorem kL {w : Str} (h : ∀ c ∈ w.cps.toList, c < 128) : PyData.canLay0 (.str w) = true := by
  have : PyData.strOk w = true := by
    unfold PyData.strOk
    rw [Array.all_eq_true']
    intro c hc
    have := h c (by simpa using hc)
    simp
    omega
  simp [PyData.canLay0, this]
theorem jJ : ∀ {ws : List Str}, (∀ w ∈ ws, ∀ c ∈ w.cps.toList, c < 128) → PyData.canLayAll0 (ws.map PyData.str) = true ∧ PyData.depthAll (ws.map PyData.str) ≤ 1
  | [], _ => by simp [PyData.canLayAll0, PyData.depthAll]
  | w :: ws, h => by
    obtain ⟨h1, h2⟩ := jJ (ws := ws) fun x hx => h x (List.mem_cons_of_mem _ hx)
    have h3 := kL (h w List.mem_cons_self)
    simp [PyData.canLayAll0, PyData.depthAll, PyData.depth, h1, h3]
    omega
theorem xB {ws : List Str} (h : ∀ w ∈ ws, ∀ c ∈ w.cps.toList, c < 128) : SeqAt.shaped (.list (ws.map PyData.str)) = true := by
  obtain ⟨h1, h2⟩ := jJ h
  unfold SeqAt.shaped
  rw [Bool.and_eq_true]
  refine ⟨by simpa [PyData.canLay0] using h1, decide_eq_true ?_⟩
  simp only [PyData.depth]
  omega
theorem jK : ∀ {A B : List Str}, PyData.eqvAll (A.map PyData.str) (B.map PyData.str) = decide (A = B)
  | [], [] => by simp [PyData.eqvAll]
  | [], b :: B => by simp [PyData.eqvAll]
  | a :: A, [] => by simp [PyData.eqvAll]
  | a :: A, b :: B => by
    simp [PyData.eqvAll, PyData.eqv, jK (A := A) (B := B)]
    by_cases e : a = b <;> simp [e]
theorem vP {A B : List Str} : PyData.eqv (.list (A.map PyData.str)) (.list (B.map PyData.str)) = decide (A = B) := by
  simp only [PyData.eqv]
  exact jK
theorem jL (n : Nat) : (pieces n).length ≤ 5 ∧ ((pieces n).map (fun x => x.length)).sum + (pieces n).length ≤ 1048576 := by
  have pl : (pieces n).length ≤ 5 := by
    unfold pieces marksL
    simp only [List.length_append]
    split <;> split <;> split <;> split <;> split <;> simp
  have pw : ∀ q ∈ pieces n, q.length ≤ 20 := by
    have w1 : wrdB.length ≤ 20 ∧ wrdU.length ≤ 20 ∧ wrdT.length ≤ 20 ∧ wrdF.length ≤ 10 ∧ wrdK.length ≤ 10 ∧ sp1.length ≤ 1 := by decide +kernel
    obtain ⟨w1, w2, w3, w4, w5, w6⟩ := w1
    have lf : ∀ k, (fig k).length = 1 := fun k => rfl
    intro q hq
    unfold pieces marksL at hq
    simp only [List.mem_append] at hq
    rcases hq with (((hq | hq) | hq) | hq) | hq <;> split at hq <;> simp at hq <;> subst hq
    · exact w1
    · exact w2
    · exact w3
    · rw [strLen_append, strLen_append, lf]; omega
    · rw [strLen_append, strLen_append, lf]; omega
  have : ∀ L : List Str, (∀ q ∈ L, q.length ≤ 20) → (L.map (·.length)).sum ≤ 20 * L.length := by
    intro L
    induction L with
    | nil => simp
    | cons a L ih =>
      intro hL
      have := ih fun q hq => hL q (List.mem_cons_of_mem _ hq)
      have := hL a List.mem_cons_self
      simp only [List.map_cons, List.sum_cons, List.length_cons]
      omega
  have := this _ pw
  exact ⟨pl, by omega⟩
theorem XL (l : List PyData) : jA 1 l = l := by simp [jA]
theorem Yz (l : List PyData) : jA 0 l = [] := by simp [jA]
noncomputable def UC : SpW := fun ws O R => ∃ n : Nat, ws = [.d (.int n)] ∧ n < 512 ∧ ∀ O', Old O O' → R (.d (.str (zA n))) O'
noncomputable def jM : SpW := fun ws O R => ∃ n : Nat, ws = [.d (.int n)] ∧ n < 512 ∧ R (.d (.str (zA n))) O
noncomputable def QZ : Option Nat → PyData
  | some n => .int (n : Nat)
  | none => .none
noncomputable def ZA : SpW := fun ws O R => ∃ z : Str, ws = [.d (.str z)] ∧ okZ z ∧ R (.d (QZ (yo z))) O
local macro_rules | `(tactic| walk_at "postb") => `(tactic| simp only [vw, QY, uv, zi, Option.some.injEq, exists_eq_left', List.length_map, yz])
section
variable {P : Program} {w : World} {K : PySem.W.Frag} {mg : Str → Option Value} {base : Heap} {f : Addr} {fd : FuncData} {bw sw hf : Addr} {se bp bs bi ba un : Addr}
theorem u5 (F : Fun K "ink_by_text" "ink_by_text" yU f fd) (T : Txt P w K mg bw sw hf) (X : TxtX K mg se bp bs bi ba un) (Kd : Cal P w K mg base 1 "likely_ink" [] (zf K XI)) (Kc : Cal P w K mg base 2 "ink_text" [] (zf K qT)) : FnOk P w K mg base (CX1 P w) 3 f fd ["text"] (yq K (xc bi)) := by
  have nd := xN.nd
  apply F.okXV xN (by rintro _ _ _ _ ⟨d, rfl, _⟩; rfl) (fun cdv A outer sh H E hr => (zc (zL (xF (xE (zy (ul (K := K) rfl) (by rfl) T.n_isinstance (by rfl) (QA.pa (qc (pv 0) (qc (xD (v := .ty "str") (u := .type "str") rfl T.n_str rfl rfl) qn)))))) (zg (jm qq X.x_BadInk rfl rfl X.c_BadInk (QA.pa (qc zn qn)))) zu)
      (zc (zm (i := 1) nd rfl (Or.inl rfl) (zE Kd (hr.mono (by decide)) rfl (QA.pa (qc (zV (K := K) rfl PySem.F.plainAttrs_str PySem.F.slot_str_split PySem.F.type_str_split vL (pv 0) (QA.pa (qc zn qn))) qn))))
      (zc (zL (zr kX (zE Kc (hr.mono (by decide)) rfl (QA.pa (qc (pv 1) qn))) (pv 0) (zt _)) (zg (jm qq X.x_BadInk rfl rfl X.c_BadInk (QA.pa (qc zn qn)))) zu)
      (zg (zq (pv 1)))))))
  · walk_at "ref"
  rintro _ O R Y ⟨d, rfl, sm, h1, h2⟩
  cases d with
  | str z =>
    walk_at "wd"
    have sm' : z.length ≤ 5000 := sm
    refine ⟨.inr (.inl ⟨rfl, _, rfl⟩), by decide +kernel, by omega, Txt.split z sp1, rfl, lik (Txt.split z sp1), rfl, Ys _, rfl, rfl, rfl, ?_⟩
    by_cases he : zA (lik (Txt.split z sp1)) = z
    · refine (iff_of_eq (if_pos (decide_eq_true (by rw [he])))).mpr (.inl (h1 _ ?_))
      simp only [byT, if_pos he]
    · refine (iff_of_eq (if_neg fun q => he ?_)).mpr (h2 ?_)
      · have := of_decide_eq_true q
        injection this
      · simp only [byT, if_neg he]
  | _ =>
    walk_at "wd"
    exact h2 rfl
theorem YA (F : Fun K "_law_at" "_law_at" vm f fd) (T : Txt P w K mg bw sw hf) : FnOk P w K mg base CX0 1 f fd ["_law_script", "_law_k"] (zf K XJ) := by
  have nd := ur.nd
  apply F.okV ur (by rintro _ _ _ ⟨a, b, rfl, _⟩; rfl) (fun cdv A outer sh H E hr => (zc (zm (i := 2) nd rfl (Or.inl rfl) zb)
      (zc (zL (zr qK (zy (ve (K := K) rfl) (by rfl) T.n_len (by rfl) (QA.pa (qc (pv 0) qn))) zb (zt _)) (zg (zm (i := 2) nd rfl (Or.inl rfl) (yy (yM (K := K) rfl) (pv 0) (zd zx (pv 1) (zy (ve (K := K) rfl) (by rfl) T.n_len (by rfl) (QA.pa (qc (pv 0) qn)))) (fun _ _ => rfl)))) zu)
      (zc (zm (i := 3) nd rfl (Or.inl rfl) (zd zx (zd ya (zd zD (zd zD (zd zD (zd zx (pv 2) zb) (zd ya (zd ya zb (pv 1)) (pv 1))) (zd ya zb (pv 1))) zb) zb) zb))
      (zg (zq (zd z7 (zd zx (zd ya (pv 3) (pv 3)) zb) zb)))))))
  · walk_at "ref"
  rintro _ O R ⟨ns, k, rfl, k0, k1, h⟩
  refine Vy (fun ρ' O' => ∃ c : Int, ρ' = [some (.d (.list (ns.map .int))), some (.d (.int k)), some (.d (.int c)), none] ∧ O = O') (fun R1 hR1 => ?_) ?_
  · walk_at "wd"
    refine ⟨ns.length, by rw [vw, List.length_map], ?_⟩
    split
    · rename_i q
      refine ⟨ns.length, by rw [vw, List.length_map], q, _, rfl, ?_⟩
      obtain ⟨j, hj⟩ := Int.eq_ofNat_of_zero_le (Int.emod_nonneg k (show (ns.length : Int) ≠ 0 by omega))
      have q1 : j < ns.length := by
        have := Int.emod_lt_of_pos k (show (0 : Int) < ns.length by omega)
        omega
      rw [hj]
      refine ⟨.d (.int ns[j]), y6 ?_, hR1 _ _ ⟨_, rfl, rfl⟩⟩
      rw [List.getElem?_map, List.getElem?_map, List.getElem?_eq_getElem q1]
      rfl
    · exact hR1 _ _ ⟨0, rfl, rfl⟩
  rintro _ _ ⟨c, rfl, rfl⟩
  walk_at "wd"
  have k2 : 0 ≤ k * k := Int.mul_nonneg k0 k0
  have k3 : k * k ≤ 2000 * 2000 := Int.mul_le_mul k1 k1 k0 (by omega)
  have e31 : 31 * k * k = 31 * (k * k) := by rw [Int.mul_assoc]
  have c1 := Int.emod_nonneg c (show (1000003 : Int) ≠ 0 by decide)
  have c2 := Int.emod_lt_of_pos c (show (0 : Int) < 1000003 by decide)
  refine ⟨mulL (by decide) (by decide), mulL (by omega) (by omega), mulL (by decide) (by decide), mulR (by decide) (by decide), mulL ?_ ?_, ⟨by omega, by omega⟩, .inl (h _ ?_ ?_)⟩
  · omega
  · omega
  · have := Int.emod_nonneg ((c % 1000003 + 31 * k * k + 7 * k + 11) * 48271 % 1000003 * ((c % 1000003 + 31 * k * k + 7 * k + 11) * 48271 % 1000003)) (show (1000003 : Int) ≠ 0 by decide)
    omega
  · have := Int.emod_lt_of_pos ((c % 1000003 + 31 * k * k + 7 * k + 11) * 48271 % 1000003 * ((c % 1000003 + 31 * k * k + 7 * k + 11) * 48271 % 1000003)) (show (0 : Int) < 1000003 by decide)
    omega
theorem jN (F : Fun K "_law_whole" "_law_whole" xq f fd) (T : Txt P w K mg bw sw hf) : FnOk P w K mg base CX0 1 f fd ["_law_thing"] (zf K u4) := by
  apply F.okV qI (by rintro _ _ _ ⟨a, rfl, _⟩; rfl) (fun cdv A outer sh H E hr => (zg (zq (vX (zy (ul (K := K) rfl) (by rfl) T.n_isinstance (by rfl) (QA.pa (qc (pv 0) (qc (xD (v := .ty "int") (u := .type "int") rfl T.n_int rfl rfl) qn)))) (qW (UJ (zy (ul (K := K) rfl) (by rfl) T.n_isinstance (by rfl) (QA.pa (qc (pv 0) (qc (xD (v := .ty "bool") (u := .type "bool") rfl T.n_bool rfl rfl) qn))))))))))
  · walk_at "ref"
  rintro _ O R ⟨i, rfl, h⟩
  walk_at "wd"
  exact .inl h
theorem jO (F : Fun K "_law_text" "_law_text" yO f fd) (T : Txt P w K mg bw sw hf) : FnOk P w K mg base CX0 1 f fd ["_law_ink_here"] (zf K UC) := by
  have nd := vn.nd
  apply F.okV vn (by rintro _ _ _ ⟨a, rfl, _⟩; rfl) (fun cdv A outer sh H E hr => (zc (qu (i := 1) nd rfl rfl (YX (N := ["_law_k", "_law_ink_here"]) (n := 1) (js := [0])) rfl (xu rfl T.n_range (QA.pa (qc zb qn))) (fun _ _ _ _ => (zS (i := 0) (show List.Nodup (["_law_k", "_law_ink_here"] : List Str) by decide +kernel) rfl (Or.inl rfl))) (fun _ _ _ _ => (uH (zr yL (zd zx (zd z7 (pv 1) (yy (yM (K := K) rfl) (zC (qc zb (qc zb (qc zb qn)))) (pv 0) (fun _ _ => rfl))) zb) zb (zt _)))) (fun _ _ _ _ => (yy (yM (K := K) rfl) (zC (qc zn (qc zn (qc zn qn)))) (pv 0) (fun _ _ => rfl))))
      (zc (zL (zr qK (zd zx (pv 0) zb) zb (zt _)) (zg (yZ (zV (K := K) rfl PySem.F.plainAttrs_list PySem.F.slot_list_append PySem.F.type_list_append yt (pv 1) (QA.pa (qc (zd zX zn (yP qB (by rfl) T.n_str rfl (QA.pa (qc (zd zx (pv 0) zb) qn)))) qn))))) zu)
      (zc (zL (zr qK (zd zx (zd z7 (pv 0) zb) zb) zb (zt _)) (zg (yZ (zV (K := K) rfl PySem.F.plainAttrs_list PySem.F.slot_list_append PySem.F.type_list_append yt (pv 1) (QA.pa (qc (zd zX zn (yP qB (by rfl) T.n_str rfl (QA.pa (qc (zd zx (zd z7 (pv 0) zb) zb) qn)))) qn))))) zu)
      (zg (zq (zV (K := K) rfl PySem.F.plainAttrs_str PySem.F.slot_str_join PySem.F.type_str_join (y9 (K := K) rfl) zn (QA.pa (qc (zd (xi (K := K) rfl) (pv 1) (zd (Uj (K := K) rfl) (zC (qc zn qn)) (yP qg (by rfl) T.n_int rfl (QA.pa (qc (xG (ue (K := K) rfl hr.units) (pv 1) (zC qn) (zt _)) qn))))) qn)))))))))
  · walk_at "ref"
  rintro _ O R ⟨n, rfl, hn, h⟩
  refine yg (fun ρ' O' => ∃ p, ρ' = [some (.d (.int n)), some (.own p)] ∧ O' p = some (.lst ((marksL n).map zR)) ∧ O p = none ∧ Old O O') (fun R1 hR1 => ?_) ?_
  · walk_at "wd"
    refine ⟨fun v => match v with | .d (.int i) => if (n : Int) / ([64, 128, 256].getD i.toNat 1) % 2 = 1 then some (.str ([wrdB, wrdU, wrdT].getD i.toNat wrdB)) else none | _ => none, ?_, fun p hp => hR1 _ _ ⟨p, rfl, ?_, hp, Old.upd Old.refl hp⟩⟩
    · intro a ha us hu
      obtain ⟨u, rfl⟩ := List.length_eq_one_iff.1 hu
      refine ⟨rfl, rfl, _, rfl, ?_⟩
      have e : a = 0 ∨ a = 1 ∨ a = 2 := by omega
      rcases e with rfl | rfl | rfl
      · refine ⟨_, rfl, ⟨by decide, by decide⟩, ?_⟩
        show if (n : Int) / 64 % 2 = 1 then _ else _
        by_cases c : (n : Int) / 64 % 2 = 1
        · rw [if_pos c]
          exact ⟨_, rfl, _, rfl, by show _ = Option.map W.d (if (n : Int) / 64 % 2 = 1 then some (.str wrdB) else none); rw [if_pos c]; rfl⟩
        · rw [if_neg c]
          show none = Option.map W.d (if (n : Int) / 64 % 2 = 1 then some (.str wrdB) else none)
          rw [if_neg c]
          rfl
      · refine ⟨_, rfl, ⟨by decide, by decide⟩, ?_⟩
        show if (n : Int) / 128 % 2 = 1 then _ else _
        by_cases c : (n : Int) / 128 % 2 = 1
        · rw [if_pos c]
          exact ⟨_, rfl, _, rfl, by show _ = Option.map W.d (if (n : Int) / 128 % 2 = 1 then some (.str wrdU) else none); rw [if_pos c]; rfl⟩
        · rw [if_neg c]
          show none = Option.map W.d (if (n : Int) / 128 % 2 = 1 then some (.str wrdU) else none)
          rw [if_neg c]
          rfl
      · refine ⟨_, rfl, ⟨by decide, by decide⟩, ?_⟩
        show if (n : Int) / 256 % 2 = 1 then _ else _
        by_cases c : (n : Int) / 256 % 2 = 1
        · rw [if_pos c]
          exact ⟨_, rfl, _, rfl, by show _ = Option.map W.d (if (n : Int) / 256 % 2 = 1 then some (.str wrdT) else none); rw [if_pos c]; rfl⟩
        · rw [if_neg c]
          show none = Option.map W.d (if (n : Int) / 256 % 2 = 1 then some (.str wrdT) else none)
          rw [if_neg c]
          rfl
    · rw [zp]
      have r3 : List.range 3 = [0, 1, 2] := rfl
      rw [r3]
      have i1 : ((n : Int) / 64 % 2 = 1) = (n / 64 % 2 = 1) := propext ⟨fun z => by omega, fun z => by omega⟩
      have i2 : ((n : Int) / 128 % 2 = 1) = (n / 128 % 2 = 1) := propext ⟨fun z => by omega, fun z => by omega⟩
      have i3 : ((n : Int) / 256 % 2 = 1) = (n / 256 % 2 = 1) := propext ⟨fun z => by omega, fun z => by omega⟩
      unfold marksL
      by_cases c1 : n / 64 % 2 = 1 <;> by_cases c2 : n / 128 % 2 = 1 <;> by_cases c3 : n / 256 % 2 = 1 <;> simp [i1, i2, i3, c1, c2, c3, zR]
  rintro _ O1 ⟨p, rfl, hp, hpn, ho1⟩
  have app1 : ∀ (O' : OM) (L : List Str) (q : Str), O' p = some (.lst (L.map zR)) → L.length ≤ 10 → uO O' (.own p) (.d (.str q)) = some (updO O' p (.lst ((L ++ [q]).map zR))) := fun O' L q hO hL => by
    simp only [uO, hO]
    rw [if_pos (by rw [List.length_map]; omega), List.map_append]
    rfl
  have ml : (marksL n).length ≤ 3 := by
    unfold marksL
    simp only [List.length_append]
    split <;> split <;> split <;> simp
  have pre1 : Str.ofString "fore " = wrdF ++ sp1 := by decide +kernel
  have pre2 : Str.ofString "back " = wrdK ++ sp1 := by decide +kernel
  have prl : (Str.ofString "fore ").length ≤ 10 ∧ (Str.ofString "back ").length ≤ 10 := by decide +kernel
  refine yg (fun ρ' O' => ρ' = [some (.d (.int n)), some (.own p)] ∧ Old O O' ∧ O' p = some (.lst ((marksL n ++ (if n % 8 = 0 then [] else [wrdF ++ sp1 ++ fig (n % 8)])).map zR))) (fun R1 hR1 => ?_) ?_
  · walk_at "wd"
    have ec : (n : Int) % 8 = ((n % 8 : Nat) : Int) := by omega
    have ef := u3 ⟨n % 8, by omega⟩
    simp only at ef
    rw [ec, ef]
    split
    · rename_i q
      have hq : ¬ n % 8 = 0 := by omega
      refine ⟨.inl ⟨rfl, by simp [zB, hp]⟩, by omega, by omega, by have := prl.1; rw [sizeLine_eq]; show _ + 1 ≤ _; omega, _, app1 O1 _ _ hp (by omega), hR1 _ _ ⟨rfl, ho1.upd hpn, ?_⟩⟩
      rw [zp, if_neg hq, pre1]
    · rename_i q
      refine hR1 _ _ ⟨rfl, ho1, ?_⟩
      rw [if_pos (by omega), List.append_nil]
      exact hp
  rintro _ O2 ⟨rfl, ho2, hp2⟩
  refine yg (fun ρ' O' => ρ' = [some (.d (.int n)), some (.own p)] ∧ Old O O' ∧ O' p = some (.lst ((pieces n).map zR))) (fun R1 hR1 => ?_) ?_
  · walk_at "wd"
    have ec : (n : Int) / 8 % 8 = ((n / 8 % 8 : Nat) : Int) := by omega
    have ef := u3 ⟨n / 8 % 8, by omega⟩
    simp only at ef
    rw [ec, ef]
    refine ⟨⟨by decide, by decide⟩, ?_⟩
    split
    · rename_i q
      have hq : ¬ n / 8 % 8 = 0 := by omega
      refine ⟨.inl ⟨rfl, by simp [zB, hp2]⟩, ⟨by decide, by decide⟩, by omega, by omega, by have := prl.2; rw [sizeLine_eq]; show _ + 1 ≤ _; omega, _, app1 O2 _ _ hp2 (by rw [List.length_append]; split <;> simp <;> omega), hR1 _ _ ⟨rfl, ho2.upd hpn, ?_⟩⟩
      rw [zp, pre2]
      unfold pieces
      rw [if_neg hq]
    · rename_i q
      refine hR1 _ _ ⟨rfl, ho2, ?_⟩
      unfold pieces
      rw [if_pos (show n / 8 % 8 = 0 by omega), List.append_nil]
      exact hp2
  rintro _ O3 ⟨rfl, ho3, hp3⟩
  walk_at "wd"
  have dp : xw O3 (.own p) = some (.list ((pieces n).map PyData.str)) := by
    simp only [xw, hp3]
    have : (pieces n).map zR = ((pieces n).map PyData.str).map W.d := by rw [List.map_map]; rfl
    rw [this, uh]
    rfl
  have sl : zB O3 (.own p) = some ((pieces n).map zR) := by simp only [zB, hp3]
  have al : zQ ((pieces n).map zR) = some ((pieces n).map PyData.str) := by
    have : (pieces n).map zR = ((pieces n).map PyData.str).map W.d := by rw [List.map_map]; rfl
    rw [this, zi]
  have pa : ∀ q ∈ pieces n, ∀ c ∈ q.cps.toList, c < 128 := by
    have w1 : (∀ c ∈ wrdB.cps.toList, c < 128) ∧ (∀ c ∈ wrdU.cps.toList, c < 128) ∧ (∀ c ∈ wrdT.cps.toList, c < 128) ∧ (∀ c ∈ wrdF.cps.toList, c < 128) ∧ (∀ c ∈ wrdK.cps.toList, c < 128) ∧ (∀ c ∈ sp1.cps.toList, c < 128) := by decide +kernel
    obtain ⟨w1, w2, w3, w4, w5, w6⟩ := w1
    have lf : ∀ k, k < 8 → ∀ c ∈ (fig k).cps.toList, c < 128 := fun k hk c hc => by
      have : c = 48 + k := by simpa [fig] using hc
      omega
    intro q hq
    unfold pieces marksL at hq
    simp only [List.mem_append] at hq
    rcases hq with (((hq | hq) | hq) | hq) | hq <;> split at hq <;> simp at hq <;> subst hq
    · exact w1
    · exact w2
    · exact w3
    · intro c hc
      rw [zJ, zJ] at hc
      simp only [List.mem_append] at hc
      rcases hc with (hc | hc) | hc
      · exact w4 c hc
      · exact w6 c hc
      · exact lf _ (by omega) c hc
    · intro c hc
      rw [zJ, zJ] at hc
      simp only [List.mem_append] at hc
      rcases hc with (hc | hc) | hc
      · exact w5 c hc
      · exact w6 c hc
      · exact lf _ (by omega) c hc
  have ev : PyData.eqv (.list ((pieces n).map PyData.str)) (.list []) = decide (n = 0) := by
    have := vP (A := pieces n) (B := [])
    rw [List.map_nil] at this
    rw [this, ← xX hn]
    cases pieces n <;> rfl
  refine ⟨.inr (.inl ⟨rfl, _, rfl⟩), _, dp, _, rfl, xB pa, by decide, _, uv, ?_⟩
  rw [ev]
  have hl := h O3 ho3
  rw [uu] at hl
  have jo : ∀ L, Txt.join (Str.ofString " ") L = Str.join sp1 L := fun L => uS _ _
  by_cases h0 : n = 0
  · have pn : pieces n = [] := by
      have := xX hn
      rw [decide_eq_true h0] at this
      exact List.isEmpty_iff.1 this
    rw [decide_eq_true h0, if_pos rfl]
    rw [pn] at sl al
    rw [if_pos h0] at hl
    refine ⟨by decide, by decide, by decide, _, sl, _, rfl, _, al, [.str (Str.ofString "plain")], by rw [XL]; rfl, by decide, [Str.ofString "plain"], rfl, by decide +kernel, by decide +kernel, .inl ?_⟩
    rw [jo]
    exact hl
  · rw [decide_eq_false h0, if_neg (by decide)]
    rw [if_neg h0] at hl
    refine ⟨by decide, by decide, by decide, _, sl, _, rfl, _, al, [], by rw [Yz]; rfl, by have := (jL n).1; simp; omega, pieces n, by rw [List.append_nil]; show some _ = _; rw [List.map_map]; rfl, by decide +kernel, (jL n).2, .inl ?_⟩
    rw [jo]
    exact hl
theorem j7 (F : Fun K "_law_text" "_law_text" yO f fd) (T : Txt P w K mg bw sw hf) : FnOk P w K mg base CX0 1 f fd ["_law_ink_here"] (zf K jM) := by
  exact (jO F T).forget fun ws O R ⟨n, e, hn, h⟩ => ⟨n, e, hn, fun O' ho => ⟨ho, h⟩⟩
end
theorem u6 {ws : List Str} {a b : Nat} (h : a ≤ b) : yT (ws.map PyData.str) (some (a : Int)) (some (b : Int)) = ((ws.drop a).take (b - a)).map PyData.str := by
  unfold yT
  rw [HT.sIx_nat, HT.sIx_nat, List.length_map, List.map_take, List.map_drop]
  by_cases q : a ≤ ws.length
  · rw [Nat.min_eq_left q]
    by_cases q2 : b ≤ ws.length
    · rw [Nat.min_eq_left q2]
    · rw [Nat.min_eq_right (by omega), List.take_of_length_le (by rw [List.length_drop, List.length_map]; omega), List.take_of_length_le (by rw [List.length_drop, List.length_map]; omega)]
  · rw [List.drop_of_length_le (by rw [List.length_map]; omega), List.drop_of_length_le (by rw [List.length_map]; omega), List.take_nil, List.take_nil]
noncomputable def stM (ws : List Str) : Nat → Nat × Nat
  | 0 => (0, 0)
  | 1 => zH ws wrdB 64 (0, 0)
  | 2 => zH ws wrdU 128 (zH ws wrdB 64 (0, 0))
  | _ => zH ws wrdT 256 (zH ws wrdU 128 (zH ws wrdB 64 (0, 0)))
noncomputable def stH (ws : List Str) (s : Nat × Nat) : Nat → Nat × Nat
  | 0 => s
  | 1 => yI ws wrdF 1 s
  | _ => yI ws wrdK 8 (yI ws wrdF 1 s)
theorem kM (z : Str) : inV (V.str z) (List.map vOf (yH.map PyData.str)) = decide (z ∈ yH) := by
  rw [List.map_map]
  have e : List.map (vOf ∘ PyData.str) yH = yH.map V.str := rfl
  rw [e]
  unfold inV
  rw [List.any_map, Bool.eq_iff_iff, List.any_eq_true, decide_eq_true_iff]
  constructor
  · rintro ⟨y, hy, hz⟩
    have : y = z := by simpa [eqV] using hz
    rw [← this]
    exact hy
  · intro hz
    exact ⟨z, hz, by simp [eqV]⟩
theorem jP : ∀ z ∈ yH, intText? z = some ((yc z : Nat) : Int) ∧ z.length ≤ 640 := by decide +kernel
theorem jQ {ws : List Str} {q : Str → Prop} (h : ∀ x ∈ ws, q x) (a n : Nat) : ∀ x ∈ (ws.drop a).take n, q x := fun x hx => h x (List.mem_of_mem_drop (List.mem_of_mem_take hx))
section
variable {P : Program} {w : World} {K : PySem.W.Frag} {mg : Str → Option Value} {base : Heap} {f : Addr} {fd : FuncData} {bw sw hf : Addr} {se bp bs bi ba un : Addr}
theorem ZB (F : Fun K "_law_ink" "_law_ink" xW f fd) (T : Txt P w K mg bw sw hf) : FnOk P w K mg base CX0 1 f fd ["_law_text_here"] (zf K ZA) := by
  have nd := vz.nd
  apply F.okV vz (by rintro _ _ _ ⟨a, rfl, _⟩; rfl) (fun cdv A outer sh H E hr => (zc (zL (zr yL (pv 0) zn (zt _)) (zg (zq zb)) zu)
      (zc (zm (i := 1) nd rfl (Or.inl rfl) (zV (K := K) rfl PySem.F.plainAttrs_str PySem.F.slot_str_split PySem.F.type_str_split vL (pv 0) (QA.pa (qc zn qn))))
      (zc (zm (i := 2) nd rfl (Or.inl rfl) zb)
      (zc (zm (i := 3) nd rfl (Or.inl rfl) zb)
      (zc (x6 PassesOwn.never rfl (xu rfl T.n_range (QA.pa (qc zb qn))) (zS (i := 4) nd rfl (Or.inl rfl))
      (zg (zL (zr (ue (K := K) rfl hr.units) (zz (yd (K := K) rfl) (pv 1) (zw (pv 3)) (zw (zd zD (pv 3) zb))) (zC (qc (yy (yM (K := K) rfl) (zC (qc zn (qc zn (qc zn qn)))) (pv 4) (fun _ _ => rfl)) qn)) (zt _)) (zc (zm (i := 2) nd rfl (Or.inl rfl) (zd zD (pv 2) (yy (yM (K := K) rfl) (zC (qc zb (qc zb (qc zb qn)))) (pv 4) (fun _ _ => rfl))))
      (zg (zm (i := 3) nd rfl (Or.inl rfl) (zd zD (pv 3) zb)))) zu)))
      (zc (x6 PassesOwn.never rfl (xu rfl T.n_range (QA.pa (qc zb qn))) (zS (i := 4) nd rfl (Or.inl rfl))
      (zc (zm (i := 5) nd rfl (Or.inl rfl) (yy (yM (K := K) rfl) (zd (xi (K := K) rfl) (zz (yd (K := K) rfl) (pv 1) (zw (zd zD (pv 3) zb)) (zw (zd zD (pv 3) zb))) (zC (qc zn qn))) zb (fun _ _ => rfl)))
      (zg (zL (PW.pt (UI (zr (ue (K := K) rfl hr.units) (zz (yd (K := K) rfl) (pv 1) (zw (pv 3)) (zw (zd zD (pv 3) zb))) (zC (qc (yy (yM (K := K) rfl) (zC (qc zn (qc zn qn))) (pv 4) (fun _ _ => rfl)) qn)) (zt _)) (VB (zr (Vc (K := K) rfl) (pv 5) (km rfl) (by with_unfolding_all rfl))))) (zc (zm (i := 2) nd rfl (Or.inl rfl) (zd zD (pv 2) (zd ya (yy (yM (K := K) rfl) (zC (qc zb (qc zb qn))) (pv 4) (fun _ _ => rfl)) (yP Z8 (by rfl) T.n_int rfl (QA.pa (qc (pv 5) qn))))))
      (zg (zm (i := 3) nd rfl (Or.inl rfl) (zd zD (pv 3) zb)))) zu))))
      (zc (zL (PW.pt (vW (zr yL (pv 3) zb (zt _)) (vV (zr Q3 (pv 3) (zy (ve (K := K) rfl) (by rfl) T.n_len (by rfl) (QA.pa (qc (pv 1) qn))) (zt _))))) (zg (zq vS)) zu)
      (zg (zq (pv 2)))))))))))
  · walk_at "ref"
  rintro _ O R ⟨z, rfl, hz, h⟩
  refine yg (fun ρ' O' => O = O' ∧ z ≠ Str.ofString "plain" ∧ ρ' = [some (.d (.str z)), none, none, none, none, none]) (fun R1 hR1 => ?_) ?_
  · walk_at "wd"
    split
    · rename_i e
      refine .inl ?_
      have := h
      unfold yo at this
      rw [if_pos e] at this
      exact this
    · rename_i e
      exact hR1 _ _ ⟨rfl, e, rfl⟩
  rintro _ _ ⟨rfl, hzp, rfl⟩
  generalize hw : Txt.split z sp1 = ws
  refine Vk (fun ρ' O' => O = O' ∧ ρ' = [some (.d (.str z)), some (.d (.list (ws.map .str))), some (.d (.int (0 : Nat))), some (.d (.int (0 : Nat))), none, none]) (fun R1 hR1 => ?_) ?_
  · walk_at "wd"
    refine ⟨.inr (.inl ⟨rfl, _, rfl⟩), by decide +kernel, by have := hz.1; omega, ?_⟩
    rw [show Str.ofString " " = sp1 from rfl, hw]
    exact hR1 _ _ ⟨rfl, rfl⟩
  have wa : ∀ q ∈ ws, ∀ c ∈ q.cps.toList, c < 128 := by rw [← hw]; exact jI hz
  rintro _ _ ⟨rfl, rfl⟩
  refine yg (fun ρ' O' => O = O' ∧ ∃ v s, s = zH ws wrdT 256 (zH ws wrdU 128 (zH ws wrdB 64 (0, 0))) ∧ ρ' = [some (.d (.str z)), some (.d (.list (ws.map .str))), some (.d (.int (s.1 : Nat))), some (.d (.int (s.2 : Nat))), v, none]) (fun R1 hR1 => ?_) ?_
  · walk_at "wd"
    refine yB.rng (fun i ρ O' => O = O' ∧ ∃ v s, s = stM ws i ∧ ρ = [some (.d (.str z)), some (.d (.list (ws.map .str))), some (.d (.int (s.1 : Nat))), some (.d (.int (s.2 : Nat))), v, none]) ⟨rfl, _, _, rfl, rfl⟩ ?_ ?_
    · rintro i _ _ hi ⟨rfl, v, s, hs, rfl⟩ R2 hR2
      have cu : yT (ws.map PyData.str) (some (s.2 : Int)) (some ((s.2 : Int) + 1)) = ((ws.drop s.2).take 1).map PyData.str := by
        have := u6 (ws := ws) (a := s.2) (b := s.2 + 1) (by omega)
        rw [show s.2 + 1 - s.2 = 1 by omega] at this
        exact this
      have ev : ∀ q : Str, PyData.eqv (.list (((ws.drop s.2).take 1).map PyData.str)) (.list [.str q]) = decide ((ws.drop s.2).take 1 = [q]) := fun q => vP (A := (ws.drop s.2).take 1) (B := [q])
      have sh := xB (jQ wa s.2 1)
      match i, hi, hs, hR2 with
      | 0, hi, hs, hR2 =>
        have put : ∀ (a b : Nat) v, (a, b) = stM ws 1 → R2 [some (.d (.str z)), some (.d (.list (ws.map .str))), some (.d (.int (a : Nat))), some (.d (.int (b : Nat))), v, none] O := fun a b v e => hR2 _ _ ⟨rfl, v, (a, b), e, rfl⟩
        walk_at "wd"
        refine ⟨_, rfl, _, zi _, _, rfl, _, rfl, _, rfl, by decide, _, rfl, _, rfl, by rw [cu]; exact sh, by decide +kernel, ?_⟩
        rw [cu, ev]
        split
        · rename_i q
          refine ⟨_, rfl, _, rfl, put (s.1 + 64) (s.2 + 1) _ ?_⟩
          have := of_decide_eq_true q
          subst hs
          exact (if_pos this).symm
        · rename_i q
          refine put s.1 s.2 _ ?_
          have := fun c => q (decide_eq_true c)
          subst hs
          exact (if_neg this).symm
      | 1, hi, hs, hR2 =>
        have put : ∀ (a b : Nat) v, (a, b) = stM ws 2 → R2 [some (.d (.str z)), some (.d (.list (ws.map .str))), some (.d (.int (a : Nat))), some (.d (.int (b : Nat))), v, none] O := fun a b v e => hR2 _ _ ⟨rfl, v, (a, b), e, rfl⟩
        walk_at "wd"
        refine ⟨_, rfl, _, zi _, _, rfl, _, rfl, _, rfl, by decide, _, rfl, _, rfl, by rw [cu]; exact sh, by decide +kernel, ?_⟩
        rw [cu, ev]
        split
        · rename_i q
          refine ⟨_, rfl, _, rfl, put (s.1 + 128) (s.2 + 1) _ ?_⟩
          have := of_decide_eq_true q
          subst hs
          exact (if_pos this).symm
        · rename_i q
          refine put s.1 s.2 _ ?_
          have := fun c => q (decide_eq_true c)
          subst hs
          exact (if_neg this).symm
      | 2, hi, hs, hR2 =>
        have put : ∀ (a b : Nat) v, (a, b) = stM ws 3 → R2 [some (.d (.str z)), some (.d (.list (ws.map .str))), some (.d (.int (a : Nat))), some (.d (.int (b : Nat))), v, none] O := fun a b v e => hR2 _ _ ⟨rfl, v, (a, b), e, rfl⟩
        walk_at "wd"
        refine ⟨_, rfl, _, zi _, _, rfl, _, rfl, _, rfl, by decide, _, rfl, _, rfl, by rw [cu]; exact sh, by decide +kernel, ?_⟩
        rw [cu, ev]
        split
        · rename_i q
          refine ⟨_, rfl, _, rfl, put (s.1 + 256) (s.2 + 1) _ ?_⟩
          have := of_decide_eq_true q
          subst hs
          exact (if_pos this).symm
        · rename_i q
          refine put s.1 s.2 _ ?_
          have := fun c => q (decide_eq_true c)
          subst hs
          exact (if_neg this).symm
    · rintro _ _ ⟨rfl, v, s, hs, rfl⟩
      exact hR1 _ _ ⟨rfl, v, s, hs, rfl⟩
  rintro _ _ ⟨rfl, v, s, hs, rfl⟩
  refine yg (fun ρ' O' => O = O' ∧ ∃ v u, ρ' = [some (.d (.str z)), some (.d (.list (ws.map .str))), some (.d (.int ((zW ws).1 : Nat))), some (.d (.int ((zW ws).2 : Nat))), v, u]) (fun R1 hR1 => ?_) ?_
  · walk_at "wd"
    refine yB.rng (fun i ρ O' => O = O' ∧ ∃ v u r, r = stH ws s i ∧ ρ = [some (.d (.str z)), some (.d (.list (ws.map .str))), some (.d (.int (r.1 : Nat))), some (.d (.int (r.2 : Nat))), v, u]) ⟨rfl, _, _, _, rfl, rfl⟩ ?_ ?_
    · rintro i _ _ hi ⟨rfl, v, u, r, hr, rfl⟩ R2 hR2
      have cu : yT (ws.map PyData.str) (some (r.2 : Int)) (some ((r.2 : Int) + 1)) = ((ws.drop r.2).take 1).map PyData.str := by
        have := u6 (ws := ws) (a := r.2) (b := r.2 + 1) (by omega)
        rw [show r.2 + 1 - r.2 = 1 by omega] at this
        exact this
      have cu2 : yT (ws.map PyData.str) (some ((r.2 : Int) + 1)) (some ((r.2 : Int) + 2)) = ((ws.drop (r.2 + 1)).take 1).map PyData.str := by
        have := u6 (ws := ws) (a := r.2 + 1) (b := r.2 + 2) (by omega)
        rw [show r.2 + 2 - (r.2 + 1) = 1 by omega] at this
        exact this
      have ev : ∀ q : Str, PyData.eqv (.list (((ws.drop r.2).take 1).map PyData.str)) (.list [.str q]) = decide ((ws.drop r.2).take 1 = [q]) := fun q => vP (A := (ws.drop r.2).take 1) (B := [q])
      have sh := xB (jQ wa r.2 1)
      have hd : atI (((((ws.drop (r.2 + 1)).take 1).map PyData.str) ++ [PyData.str (Str.ofString "")]).map W.d) 0 = some (.d (.str (xn ws r.2))) := by
        unfold xn
        generalize (ws.drop (r.2 + 1)).take 1 = L
        cases L <;> exact Jr
      have l1 : (((ws.drop (r.2 + 1)).take 1).map PyData.str).length + [PyData.str (Str.ofString "")].length ≤ 1000 := by
        rw [List.length_map, List.length_take]
        show _ + 1 ≤ 1000
        omega
      match i, hi, hr, hR2 with
      | 0, hi, hr, hR2 =>
        have put : ∀ (a b : Nat) v u, (a, b) = stH ws s 1 → R2 [some (.d (.str z)), some (.d (.list (ws.map .str))), some (.d (.int (a : Nat))), some (.d (.int (b : Nat))), v, u] O := fun a b v u e => hR2 _ _ ⟨rfl, v, u, (a, b), e, rfl⟩
        walk_at "wd"
        refine ⟨_, rfl, _, zi _, _, rfl, _, rfl, _, zi _, _, rfl, by rw [cu2]; exact l1, _, rfl, _, by rw [cu2]; exact hd, ?_⟩
        refine ⟨_, rfl, _, zi _, _, rfl, _, rfl, _, rfl, by decide, _, rfl, _, rfl, by rw [cu]; exact sh, by decide +kernel, ?_⟩
        rw [cu, ev]
        split
        · rename_i q
          have q1 := of_decide_eq_true q
          refine ⟨_, rfl, yH.map PyData.str, uv, rfl, ?_, ?_⟩
          · intro x hx
            obtain ⟨y, _, rfl⟩ := List.mem_map.1 hx
            rfl
          rw [kM]
          split
          · rename_i q
            have q2 := of_decide_eq_true q
            obtain ⟨f1, f2⟩ := jP _ q2
            refine ⟨_, rfl, _, rfl, _, rfl, _, f1, f2, mulL (by decide) (by decide), put (r.1 + 1 * yc (xn ws r.2)) (r.2 + 2) _ _ ?_⟩
            subst hr
            exact (if_pos ⟨q1, q2⟩).symm
          · rename_i q
            have q2 := fun c => q (decide_eq_true c)
            refine put r.1 r.2 _ _ ?_
            subst hr
            exact (if_neg (fun c => q2 c.2)).symm
        · rename_i q
          have q1 := fun c => q (decide_eq_true c)
          refine put r.1 r.2 _ _ ?_
          subst hr
          exact (if_neg (fun c => q1 c.1)).symm
      | 1, hi, hr, hR2 =>
        have put : ∀ (a b : Nat) v u, (a, b) = stH ws s 2 → R2 [some (.d (.str z)), some (.d (.list (ws.map .str))), some (.d (.int (a : Nat))), some (.d (.int (b : Nat))), v, u] O := fun a b v u e => hR2 _ _ ⟨rfl, v, u, (a, b), e, rfl⟩
        walk_at "wd"
        refine ⟨_, rfl, _, zi _, _, rfl, _, rfl, _, zi _, _, rfl, by rw [cu2]; exact l1, _, rfl, _, by rw [cu2]; exact hd, ?_⟩
        refine ⟨_, rfl, _, zi _, _, rfl, _, rfl, _, rfl, by decide, _, rfl, _, rfl, by rw [cu]; exact sh, by decide +kernel, ?_⟩
        rw [cu, ev]
        split
        · rename_i q
          have q1 := of_decide_eq_true q
          refine ⟨_, rfl, yH.map PyData.str, uv, rfl, ?_, ?_⟩
          · intro x hx
            obtain ⟨y, _, rfl⟩ := List.mem_map.1 hx
            rfl
          rw [kM]
          split
          · rename_i q
            have q2 := of_decide_eq_true q
            obtain ⟨f1, f2⟩ := jP _ q2
            refine ⟨_, rfl, _, rfl, _, rfl, _, f1, f2, mulL (by decide) (by decide), put (r.1 + 8 * yc (xn ws r.2)) (r.2 + 2) _ _ ?_⟩
            subst hr
            exact (if_pos ⟨q1, q2⟩).symm
          · rename_i q
            have q2 := fun c => q (decide_eq_true c)
            refine put r.1 r.2 _ _ ?_
            subst hr
            exact (if_neg (fun c => q2 c.2)).symm
        · rename_i q
          have q1 := fun c => q (decide_eq_true c)
          refine put r.1 r.2 _ _ ?_
          subst hr
          exact (if_neg (fun c => q1 c.1)).symm
    · rintro _ _ ⟨rfl, v, u, r, hr, rfl⟩
      subst hr
      subst hs
      exact hR1 _ _ ⟨rfl, v, u, rfl⟩
  rintro _ _ ⟨rfl, v, u, rfl⟩
  walk_at "wd"
  have hl := h
  unfold yo at hl
  rw [if_neg hzp, hw] at hl
  unfold uX at hl
  split
  · rename_i q
    rw [if_pos (.inl q)] at hl
    exact .inl hl
  · rename_i q
    refine ⟨ws.length, by rw [vw, List.length_map], ?_⟩
    split
    · rename_i q2
      rw [if_pos (.inr q2)] at hl
      exact .inl hl
    · rename_i q2
      rw [if_neg (by omega)] at hl
      exact .inl hl
end
noncomputable def okM (n : Nat) (z : Str) : Prop := z.length ≤ n ∧ ∀ c ∈ z.cps.toList, c < 128
noncomputable def jR : SpW := fun ws O R => ∃ z : Str, ∃ c : Int, ∃ n : Nat, ws = [.d (.str z), .d (.int c)] ∧ okM n z ∧ n ≤ 400 ∧ 0 ≤ c ∧ c ≤ 333334 ∧ ∀ z', okM (2 * n + 20) z' → R (.d (.str z')) O
theorem jS {z : Str} {b : Nat} (hb : b ≤ z.length) : (Txt.slice z none (some (b : Int))).cps.toList = z.cps.toList.take b := by
  rw [jx (a := 0) (b := b) (Nat.zero_le _) hb ?_]
  · rw [List.drop_zero, Nat.sub_zero]
  unfold Builtin.Str.strSliceIndices PySem.sliceRange
  simp only [show (1 : Int) > 0 by decide, if_true]
  have cb : max 0 (min (if (b : Int) < 0 then (b : Int) + z.length else b) z.length) = (b : Int) := by rw [if_neg (by omega)]; omega
  rw [cb]
  have e : (if (0 : Int) < b then ((b : Int) - 0 + 1 - 1) / 1 else 0).toNat = b - 0 := by
    split
    · rw [Int.ediv_one]; omega
    · simp; omega
  rw [e]
  refine List.map_congr_left fun k hk => ?_
  omega
theorem jT {z : Str} {a : Nat} : (Txt.slice z (some (a : Int)) none).cps.toList = z.cps.toList.drop a := by
  by_cases h : a ≤ z.length
  · exact ku h
  · have e : Txt.slice z (some (a : Int)) none = Txt.slice z (some (z.length : Int)) none := by
      unfold Txt.slice Builtin.Str.strSliceIndices
      simp only [show (1 : Int) > 0 by decide, if_true]
      have ca : max 0 (min (if (a : Int) < 0 then (a : Int) + z.length else a) z.length) = (z.length : Int) := by rw [if_neg (by omega)]; omega
      have cb : max 0 (min (if (z.length : Int) < 0 then (z.length : Int) + z.length else z.length) z.length) = (z.length : Int) := by rw [if_neg (by omega)]; omega
      rw [ca, cb]
    have hz : z.length = z.cps.toList.length := rfl
    rw [e, ku (Nat.le_refl _), List.drop_of_length_le (by omega), List.drop_of_length_le (by omega)]
theorem yK {a b : Nat} {x y : Str} (hx : okM a x) (hy : okM b y) : okM (a + b) (x ++ y) := by
  refine ⟨by rw [strLen_append]; have := hx.1; have := hy.1; omega, fun c hc => ?_⟩
  rw [zJ] at hc
  rcases List.mem_append.1 hc with hc | hc
  · exact hx.2 c hc
  · exact hy.2 c hc
theorem Q0 {n : Nat} {z : Str} {b : Nat} (h : okM n z) (hb : b ≤ z.length) : okM b (Txt.slice z none (some (b : Int))) := by
  refine ⟨?_, fun c hc => h.2 c ?_⟩
  · rw [xM, jS hb, List.length_take]; omega
  · rw [jS hb] at hc
    exact List.mem_of_mem_take hc
theorem Q1 {n : Nat} {z : Str} {b : Nat} (h : okM n z) : okM (n - b) (Txt.slice z (some (b : Int)) none) := by
  have hn := h.1
  rw [xM] at hn
  refine ⟨?_, fun c hc => h.2 c ?_⟩
  · rw [xM, jT, List.length_drop]; omega
  · rw [jT] at hc
    exact List.mem_of_mem_drop hc
theorem vQ {a b : Nat} {x : Str} (h : okM a x) (hb : a ≤ b) : okM b x := ⟨Nat.le_trans h.1 hb, h.2⟩
noncomputable def wgt (L : List Str) : Nat := (L.map (fun x => x.length)).sum + L.length
theorem yw (A B : List Str) : wgt (A ++ B) = wgt A + wgt B := by
  unfold wgt
  rw [List.map_append, List.sum_append, List.length_append]
  omega
theorem u7 (A : List Str) (n : Nat) : wgt (A.take n) + wgt (A.drop n) = wgt A := by
  rw [← yw, List.take_append_drop]
theorem vR (A : List Str) (n k : Nat) : wgt (A.drop (n + k)) ≤ wgt (A.drop n) := by
  have := u7 (A.drop n) k
  rw [List.drop_drop] at this
  omega
theorem jU {n : Nat} {L : List Str} (hw : ∀ q ∈ L, ∀ c ∈ q.cps.toList, c < 128) (h : wgt L ≤ n + 1) : okM n (Str.join sp1 L) := by
  by_cases e : L = []
  · subst e
    exact ⟨Nat.zero_le _, fun c hc => by cases hc⟩
  · refine ⟨?_, fun c hc => ?_⟩
    · have := qC e
      unfold wgt at h
      omega
    · rw [yl] at hc
      rcases Yy hc with rfl | ⟨a, ha, hc⟩
      · decide
      · obtain ⟨q, hq, rfl⟩ := List.mem_map.1 ha
        exact hw q hq c hc
theorem ym {ws : List Str} {n : Nat} : yT (ws.map PyData.str) none (some (n : Int)) = (ws.take n).map PyData.str := by
  unfold yT
  rw [HT.sIx_none, HT.sIx_nat, List.drop_zero, Nat.sub_zero, List.map_take]
  rcases Nat.le_total n (ws.map PyData.str).length with h | h
  · rw [Nat.min_eq_left h]
  · rw [Nat.min_eq_right h, List.take_length, List.take_of_length_le h]
theorem yx {ws : List Str} {n : Nat} : yT (ws.map PyData.str) (some (n : Int)) none = (ws.drop n).map PyData.str := by
  unfold yT
  rw [HT.sIx_none, HT.sIx_nat, List.map_drop]
  rcases Nat.le_total n (ws.map PyData.str).length with h | h
  · rw [Nat.min_eq_left h, List.take_of_length_le (by rw [List.length_drop]; omega)]
  · rw [Nat.min_eq_right h, List.drop_length, List.drop_eq_nil_of_le h]
    simp
noncomputable def uw : List Str := [Str.ofString "plain", Str.ofString "bold", Str.ofString "under", Str.ofString "turned", Str.ofString "fore", Str.ofString "back", Str.ofString "3", Str.ofString "0", Str.ofString "8", Str.ofString "fore 0", Str.ofString "back 8", Str.ofString "fore 12", Str.ofString "Bold"]
theorem XM : ∀ q ∈ uw, (∀ c ∈ q.cps.toList, c < 128) ∧ q.length ≤ 7 := by decide +kernel
theorem YB : (∀ c ∈ (Str.ofString "abdefklnoprtu 01789").cps.toList, c < 128) ∧ (Str.ofString "abdefklnoprtu 01789").cps.toList.length = 19 ∧ (Str.ofString "abdefklnoprtu 01789").length ≤ 19 := by decide +kernel
theorem XN (n : Nat) : ∀ q ∈ pieces n, ∀ c ∈ q.cps.toList, c < 128 := by
  have w1 : (∀ c ∈ wrdB.cps.toList, c < 128) ∧ (∀ c ∈ wrdU.cps.toList, c < 128) ∧ (∀ c ∈ wrdT.cps.toList, c < 128) ∧ (∀ c ∈ wrdF.cps.toList, c < 128) ∧ (∀ c ∈ wrdK.cps.toList, c < 128) ∧ (∀ c ∈ sp1.cps.toList, c < 128) := by decide +kernel
  obtain ⟨w1, w2, w3, w4, w5, w6⟩ := w1
  have lf : ∀ k, k < 8 → ∀ c ∈ (fig k).cps.toList, c < 128 := fun k hk c hc => by
    have : c = 48 + k := by simpa [fig] using hc
    omega
  intro q hq
  unfold pieces marksL at hq
  simp only [List.mem_append] at hq
  rcases hq with (((hq | hq) | hq) | hq) | hq <;> split at hq <;> simp at hq <;> subst hq
  · exact w1
  · exact w2
  · exact w3
  · intro c hc
    rw [zJ, zJ] at hc
    simp only [List.mem_append] at hc
    rcases hc with (hc | hc) | hc
    · exact w4 c hc
    · exact w6 c hc
    · exact lf _ (by omega) c hc
  · intro c hc
    rw [zJ, zJ] at hc
    simp only [List.mem_append] at hc
    rcases hc with (hc | hc) | hc
    · exact w5 c hc
    · exact w6 c hc
    · exact lf _ (by omega) c hc
theorem XO (n : Nat) : wgt (pieces n) ≤ 51 := by
  have w1 : wrdB.length = 4 ∧ wrdU.length = 5 ∧ wrdT.length = 6 ∧ wrdF.length = 4 ∧ wrdK.length = 4 ∧ sp1.length = 1 := by decide +kernel
  obtain ⟨w1, w2, w3, w4, w5, w6⟩ := w1
  have lf : ∀ k, (fig k).length = 1 := fun k => rfl
  have hw : ∀ {c : Prop} [Decidable c] {q : Str} {k : Nat}, q.length ≤ k → wgt (if c then [q] else []) ≤ k + 1 := fun {c _ q k} h => by
    split
    · simp [wgt]; omega
    · simp [wgt]
  have hw' : ∀ {c : Prop} [Decidable c] {q : Str} {k : Nat}, q.length ≤ k → wgt (if c then [] else [q]) ≤ k + 1 := fun {c _ q k} h => by
    split
    · simp [wgt]
    · simp [wgt]; omega
  unfold pieces marksL
  rw [yw, yw, yw, yw]
  have h1 := hw (c := n / 64 % 2 = 1) (q := wrdB) (k := 4) (by omega)
  have h2 := hw (c := n / 128 % 2 = 1) (q := wrdU) (k := 5) (by omega)
  have h3 := hw (c := n / 256 % 2 = 1) (q := wrdT) (k := 6) (by omega)
  have h4 := hw' (c := n % 8 = 0) (q := wrdF ++ sp1 ++ fig (n % 8)) (k := 6) (by rw [strLen_append, strLen_append, lf]; omega)
  have h5 := hw' (c := n / 8 % 8 = 0) (q := wrdK ++ sp1 ++ fig (n / 8 % 8)) (k := 6) (by rw [strLen_append, strLen_append, lf]; omega)
  omega
section
variable {P : Program} {w : World} {K : PySem.W.Frag} {mg : Str → Option Value} {base : Heap} {f : Addr} {fd : FuncData} {bw sw hf : Addr} {se bp bs bi ba un : Addr}
seal L2.PE L2.PS L2.PSs L2.PT L2.PA in
theorem j8 (F : Fun K "_law_bent" "_law_bent" xA f fd) (T : Txt P w K mg bw sw hf) : FnOk P w K mg base CX0 1 f fd ["_law_text_here", "_law_cell"] (zf K jR) := by
  have nd := vo.nd
  apply F.okV vo (by rintro _ _ _ ⟨a, b, n, rfl, _⟩; rfl) (fun cdv A outer sh H E hr => (zc (zm (i := 2) nd rfl (Or.inl rfl) (zV (K := K) rfl PySem.F.plainAttrs_str PySem.F.slot_str_split PySem.F.type_str_split vL (pv 0) (QA.pa (qc zn qn))))
      (zc (zm (i := 3) nd rfl (Or.inl rfl) (zd zx (zd z7 (pv 1) zb) (zd zD (zy jh (by rfl) T.n_len (by rfl) (QA.pa (qc (pv 0) qn))) zb)))
      (zc (zm (i := 4) nd rfl (Or.inl rfl) (zd zx (zd z7 (pv 1) zb) (zy (ve (K := K) rfl) (by rfl) T.n_len (by rfl) (QA.pa (qc (pv 2) qn)))))
      (zc (zm (i := 5) nd rfl (Or.inl rfl) (yy UX zn (zd zx (zd z7 (pv 1) zb) zb) (fun _ _ => rfl)))
      (zc (zL (zr yL (zd zx (pv 1) zb) zb (zt _)) (zg (zq (zd zX (zd zX (zz xa (pv 0) zM (zw (pv 3))) (pv 5)) (zz xa (pv 0) (zw (pv 3)) zM)))) zu)
      (zc (zL (zr yL (zd zx (pv 1) zb) zb (zt _)) (zg (zq (zd zX (zz xa (pv 0) zM (zw (pv 3))) (zz xa (pv 0) (zw (zd zD (pv 3) zb)) zM)))) zu)
      (zc (zL (zr yL (zd zx (pv 1) zb) zb (zt _)) (zg (zq (zd zX (zd zX (zz xa (pv 0) zM (zw (pv 3))) (pv 5)) (zz xa (pv 0) (zw (zd zD (pv 3) zb)) zM)))) zu)
      (zc (zL (zr yL (zd zx (pv 1) zb) zb (zt _)) (zg (zq (zV (K := K) rfl PySem.F.plainAttrs_str PySem.F.slot_str_join PySem.F.type_str_join (y9 (K := K) rfl) zn (QA.pa (qc (zd (xi (K := K) rfl) (zz (yd (K := K) rfl) (pv 2) zM (zw (pv 4))) (zz (yd (K := K) rfl) (pv 2) (zw (zd zD (pv 4) zb)) zM)) qn))))) zu)
      (zc (zL (zr yL (zd zx (pv 1) zb) zb (zt _)) (zg (zq (zV (K := K) rfl PySem.F.plainAttrs_str PySem.F.slot_str_join PySem.F.type_str_join (y9 (K := K) rfl) zn (QA.pa (qc (zd (xi (K := K) rfl) (zz (yd (K := K) rfl) (pv 2) zM (zw (zd zD (pv 4) zb))) (zz (yd (K := K) rfl) (pv 2) (zw (pv 4)) zM)) qn))))) zu)
      (zc (zL (zr yL (zd zx (pv 1) zb) zb (zt _)) (zg (zq (zV (K := K) rfl PySem.F.plainAttrs_str PySem.F.slot_str_join PySem.F.type_str_join (y9 (K := K) rfl) zn (QA.pa (qc (zd (xi (K := K) rfl) (zz (yd (K := K) rfl) (pv 2) (zw (pv 4)) zM) (zz (yd (K := K) rfl) (pv 2) zM (zw (pv 4)))) qn))))) zu)
      (zc (zm (i := 6) nd rfl (Or.inl rfl) (km rfl))
      (zc (zm (i := 7) nd rfl (Or.inl rfl) (yy (yM (K := K) rfl) (pv 6) (zd zx (zd z7 (pv 1) zb) zb) (fun _ _ => rfl)))
      (zg (zq (zV (K := K) rfl PySem.F.plainAttrs_str PySem.F.slot_str_join PySem.F.type_str_join (y9 (K := K) rfl) zn (QA.pa (qc (zd (xi (K := K) rfl) (zd (xi (K := K) rfl) (zz (yd (K := K) rfl) (pv 2) zM (zw (pv 4))) (zC (qc (pv 7) qn))) (zz (yd (K := K) rfl) (pv 2) (zw (zd zD (pv 4) (zd zx (zd z7 (pv 1) zb) zb))) zM)) qn))))))))))))))))))
  · walk_at "ref"
  rintro _ O R ⟨z, c, n, rfl, hz, hn, c0, c1, h⟩
  generalize hw : Txt.split z sp1 = ws
  have wpos : 0 < ws.length := by rw [← hw]; exact List.length_pos_iff.2 (uo z).2
  refine Vk (fun ρ' O' => O = O' ∧ ∃ at_ pl : Nat, at_ ≤ z.length ∧ pl < ws.length ∧ ρ' = [some (.d (.str z)), some (.d (.int c)), some (.d (.list (ws.map .str))), some (.d (.int (at_ : Nat))), some (.d (.int (pl : Nat))), none, none, none]) (fun R1 hR1 => ?_) ?_
  · walk_at "wd"
    have hl : uN O (.d (.list ((Txt.split z (Str.ofString " ")).map PyData.str))) = some ws.length := by rw [vw, List.length_map, show Str.ofString " " = sp1 from rfl, hw]
    refine ⟨.inr (.inl ⟨rfl, _, rfl⟩), by decide +kernel, by have := hz.1; omega, ⟨by decide, by decide⟩, by have := hz.1; rw [sizeLine_eq]; omega, ⟨by decide, by decide⟩, _, hl, wpos, ?_⟩
    rw [show Str.ofString " " = sp1 from rfl, hw]
    have a1 := Int.emod_nonneg (c / 8) (show (z.length : Int) + 1 ≠ 0 by omega)
    have a2 := Int.emod_lt_of_pos (c / 8) (show (0 : Int) < (z.length : Int) + 1 by omega)
    have b1 := Int.emod_nonneg (c / 8) (show (ws.length : Int) ≠ 0 by omega)
    have b2 := Int.emod_lt_of_pos (c / 8) (show (0 : Int) < (ws.length : Int) by omega)
    obtain ⟨i, hi⟩ := Int.eq_ofNat_of_zero_le a1
    obtain ⟨j, hj⟩ := Int.eq_ofNat_of_zero_le b1
    rw [hi, hj]
    exact hR1 _ _ ⟨rfl, i, j, by omega, by omega, rfl⟩
  rintro _ _ ⟨rfl, at_, pl, hat, hpl, rfl⟩
  refine yg (fun ρ' O' => O = O' ∧ ∃ q : Str, q.length = 1 ∧ (∀ c ∈ q.cps.toList, c < 128) ∧ ρ' = [some (.d (.str z)), some (.d (.int c)), some (.d (.list (ws.map .str))), some (.d (.int (at_ : Nat))), some (.d (.int (pl : Nat))), some (.d (.str q)), none, none]) (fun R1 hR1 => ?_) ?_
  · walk_at "wd"
    obtain ⟨s1, s2, s3⟩ := YB
    have a1 := Int.emod_nonneg (c / 512) (show (19 : Int) ≠ 0 by decide)
    have a2 := Int.emod_lt_of_pos (c / 512) (show (0 : Int) < 19 by decide)
    obtain ⟨i, hi⟩ := Int.eq_ofNat_of_zero_le a1
    rw [hi]
    have i1 : i < (Str.ofString "abdefklnoprtu 01789").cps.toList.length := by omega
    refine ⟨⟨by decide, by decide⟩, by rw [sizeLine_eq]; omega, _, y6 (List.getElem?_eq_getElem i1), hR1 _ _ ⟨rfl, _, rfl, fun c hc => ?_, rfl⟩⟩
    have : c = (Str.ofString "abdefklnoprtu 01789").cps.toList[i] := by simpa using hc
    rw [this]
    exact s1 _ (List.getElem_mem i1)
  rintro _ _ ⟨rfl, q, q1, q2, rfl⟩
  walk_at "wd"
  have jo : ∀ L, Txt.join (Str.ofString " ") L = Str.join sp1 L := fun L => uS _ _
  have wa : ∀ q ∈ ws, ∀ c ∈ q.cps.toList, c < 128 := by rw [← hw]; exact jI ⟨by have := hz.1; omega, hz.2⟩
  have wg : wgt ws ≤ n + 1 := by
    have := (uo z).1
    rw [hw] at this
    have := hz.1
    unfold wgt
    omega
  have zl := hz.1
  have sl := sizeLine_eq
  have oto := Q0 hz hat
  have ofr : ∀ b, okM (n - b) (Txt.slice z (some ((b : Nat) : Int)) none) := fun b => Q1 hz
  have o1 := oto.1
  have oq : okM 1 q := ⟨by omega, q2⟩
  have ojn : ∀ (A B : List Str), (∀ q ∈ A, ∀ c ∈ q.cps.toList, c < 128) → (∀ q ∈ B, ∀ c ∈ q.cps.toList, c < 128) → wgt A + wgt B ≤ 2 * n + 21 → okM (2 * n + 20) (Str.join sp1 (A ++ B)) := fun A B hA hB hAB => jU (fun q hq => (List.mem_append.1 hq).elim (hA q) (hB q)) (by rw [yw]; omega)
  have jn : ∀ (A B : List Str), wgt A + wgt B ≤ 2 * n + 21 → (A.map PyData.str).length + (B.map PyData.str).length ≤ 1000 ∧ zB O (.d (.list (A.map PyData.str ++ B.map PyData.str))) = some ((A ++ B).map zR) ∧ ((A ++ B).map (fun x => x.length)).sum + (A ++ B).length ≤ 1048576 := fun A B hAB => by
    refine ⟨?_, ?_, ?_⟩
    · unfold wgt at hAB
      rw [List.length_map, List.length_map]
      omega
    · rw [← List.map_append]
      show some _ = _
      rw [List.map_map]
      rfl
    · have := yw A B
      unfold wgt at this hAB
      omega
  have e1 : ((at_ : Int) + 1) = ((at_ + 1 : Nat) : Int) := by omega
  have e2 : ((pl : Int) + 1) = ((pl + 1 : Nat) : Int) := by omega
  rw [e1, e2]
  have ta : ∀ k, ∀ q ∈ ws.take k, ∀ c ∈ q.cps.toList, c < 128 := fun k q hq => wa q (List.mem_of_mem_take hq)
  have da : ∀ k, ∀ q ∈ ws.drop k, ∀ c ∈ q.cps.toList, c < 128 := fun k q hq => wa q (List.mem_of_mem_drop hq)
  have w1 := u7 ws pl
  have w2 := u7 ws (pl + 1)
  split
  · have p1 := (yK oto oq).1
    have p2 := yK (yK oto oq) (ofr at_)
    have p3 := (ofr at_).1
    refine ⟨by omega, by omega, by omega, by omega, .inl (h _ (vQ p2 (by omega)))⟩
  split
  · have p2 := yK oto (ofr (at_ + 1))
    have p3 := (ofr (at_ + 1)).1
    refine ⟨by omega, by omega, .inl (h _ (vQ p2 (by omega)))⟩
  split
  · have p1 := (yK oto oq).1
    have p2 := yK (yK oto oq) (ofr (at_ + 1))
    have p3 := (ofr (at_ + 1)).1
    refine ⟨by omega, by omega, by omega, by omega, .inl (h _ (vQ p2 (by omega)))⟩
  split
  · obtain ⟨j1, j2, j3⟩ := jn (ws.take pl) (ws.drop (pl + 1)) (by have := vR ws pl 1; omega)
    refine ⟨.inr (.inl ⟨rfl, _, rfl⟩), _, rfl, _, zi _, _, rfl, _, zi _, _, rfl, _, rfl, _, zi _, _, zi _, by rw [ym, yx]; exact j1, _, by rw [ym, yx]; exact j2, by decide +kernel, j3, .inl ?_⟩
    rw [jo]
    exact h _ (ojn _ _ (ta _) (da _) (by have := vR ws pl 1; omega))
  split
  · obtain ⟨j1, j2, j3⟩ := jn (ws.take (pl + 1)) (ws.drop pl) (by omega)
    refine ⟨.inr (.inl ⟨rfl, _, rfl⟩), _, rfl, _, zi _, _, rfl, _, zi _, _, rfl, _, rfl, _, zi _, _, zi _, by rw [ym, yx]; exact j1, _, by rw [ym, yx]; exact j2, by decide +kernel, j3, .inl ?_⟩
    rw [jo]
    exact h _ (ojn _ _ (ta _) (da _) (by omega))
  split
  · obtain ⟨j1, j2, j3⟩ := jn (ws.drop pl) (ws.take pl) (by omega)
    refine ⟨.inr (.inl ⟨rfl, _, rfl⟩), _, rfl, _, zi _, _, rfl, _, zi _, _, rfl, _, rfl, _, zi _, _, zi _, by rw [ym, yx]; exact j1, _, by rw [ym, yx]; exact j2, by decide +kernel, j3, .inl ?_⟩
    rw [jo]
    exact h _ (ojn _ _ (da _) (ta _) (by omega))
  have a1 := Int.emod_nonneg (c / 512) (show (13 : Int) ≠ 0 by decide)
  have a2 := Int.emod_lt_of_pos (c / 512) (show (0 : Int) < 13 by decide)
  obtain ⟨i, hi⟩ := Int.eq_ofNat_of_zero_le a1
  obtain ⟨k, hk⟩ := Int.eq_ofNat_of_zero_le (Int.emod_nonneg (c / 8192) (show (2 : Int) ≠ 0 by decide))
  rw [hi, hk]
  have i1 : i < uw.length := by show i < 13; omega
  have ei : ((uw.map PyData.str).map W.d)[i]? = some (.d (.str uw[i])) := by rw [List.getElem?_map, List.getElem?_map, List.getElem?_eq_getElem i1]; rfl
  obtain ⟨s1, s2⟩ := XM _ (List.getElem_mem i1)
  generalize uw[i] = other at ei s1 s2
  have e3 : ((pl : Int) + (k : Int)) = ((pl + k : Nat) : Int) := by omega
  rw [e3]
  have wo : wgt [other] ≤ 8 := by
    unfold wgt
    simp
    omega
  have w3 := vR ws pl k
  have w4 := yw (ws.take pl) [other]
  obtain ⟨j1, j2, j3⟩ := jn (ws.take pl ++ [other]) (ws.drop (pl + k)) (by omega)
  rw [List.map_append] at j1 j2
  have j0 : ((ws.take pl).map PyData.str).length + [PyData.str other].length ≤ 1000 := by
    rw [List.length_append] at j1
    have e : ([other].map PyData.str).length = [PyData.str other].length := rfl
    omega
  refine ⟨⟨by decide, by decide⟩, _, rfl, _, y6 ei, .inr (.inl ⟨rfl, _, rfl⟩), _, rfl, _, zi _, [.str other], rfl, by show (1 : Nat) ≤ 1000; decide, _, rfl, _, rfl, _, zi _, [.str other], rfl, by rw [ym]; exact j0, ⟨by decide, by decide⟩, _, rfl, _, zi _, _, rfl, _, rfl, _, zi _, _, zi _, by rw [ym, yx]; exact j1, _, by rw [ym, yx]; exact j2, by decide +kernel, j3, .inl ?_⟩
  rw [jo]
  refine h _ (ojn _ _ (fun q hq => ?_) (da _) (by omega))
  rcases List.mem_append.1 hq with hq | hq
  · exact ta _ q hq
  · cases List.mem_singleton.1 hq
    exact s1
end
noncomputable def u8 : Addr → Sp := fun e vs H Q _ => vs = [.ref e] ∧ ∀ H', Same H H' → Q (.bl true) H'
noncomputable def qU : SpW := fun ws O R => ∃ d, ws = [.d d] ∧ jH d ∧ R (.d (.bool (byT d).isNone)) O
local macro_rules | `(tactic| walk_at "rd") => `(tactic| simp [Y2, jl, YZ, tBM, qX, tOp, rI, rI0, rU, tUn, uz, tC, L2.start, uA, kQ, kY, qY, xR, yp, xS, uD, tCB, kP, vY, kN, Jt, kO, UR, YD, tOr, YE, tB, rEq, rNe, x8, k6, uE, jd, tIf, and_assoc, Uk, Ul, uG])
section
variable {P : Program} {w : World} {K : PySem.W.Frag} {mg : Str → Option Value} {base : Heap} {f : Addr} {fd : FuncData} {bw sw hf : Addr} {se bp bs bi ba un : Addr}
theorem jV (F : Fun K "_law_alone" "_law_alone" yD f fd) (T : Txt P w K mg bw sw hf) (X : TxtX K mg se bp bs bi ba un) : FnOkE P w K mg base 1 f fd ["_law_error"] bi u8 := by
  have nd := x3.nd
  refine F.okE x3 (fun e vs H Q E h => by rw [h.1]; rfl) (fun cdv A outer s H vs Q e oe hr hc hd h => ?_)
  obtain ⟨rfl, hQ⟩ := h
  have hm : (e, oe) ∈ (cxOfE P w K mg base ["_law_error", "_law_kinds"] "_law_alone" (defScope yD) f cdv A outer s H e oe).pn := List.mem_singleton.2 rfl
  refine ⟨_, (zc (zm (i := 1) nd rfl (Or.inl rfl) (zC (qc (zy (yi X.y_BadInk hm hc hd) (by rfl) T.n_isinstance (by rfl) (QA.pa (qc (pv 0) (qc (z0 (v := .ref bp) (by rfl) X.c_BadPicture (by rfl)) qn)))) (qc (zy (yi X.y_BadInk hm hc hd) (by rfl) T.n_isinstance (by rfl) (QA.pa (qc (pv 0) (qc (z0 (v := .ref bs) (by rfl) X.c_BadSize (by rfl)) qn)))) (qc (zy (yi X.y_BadInk hm hc hd) (by rfl) T.n_isinstance (by rfl) (QA.pa (qc (pv 0) (qc (z0 (v := .ref ba) (by rfl) X.c_BadPaper (by rfl)) qn)))) qn)))))
    (zc (yZ (k7 PySem.F.plainAttrs_list PySem.F.slot_list_append PySem.F.type_list_append yt (pv 1) (QA.pa (qc (zy (yi X.y_BadInk hm hc hd) (by rfl) T.n_isinstance (by rfl) (QA.pa (qc (pv 0) (qc (z0 (v := .ref un) (by rfl) X.c_Unlike (by rfl)) qn)))) qn))))
    (zg (zq (vX (zy (yi X.y_BadInk hm hc hd) (by rfl) T.n_isinstance (by rfl) (QA.pa (qc (pv 0) (qc (z0 (v := .ref bi) (by rfl) X.c_BadInk (by rfl)) qn)))) (vX (zy (yi X.y_BadInk hm hc hd) (by rfl) T.n_isinstance (by rfl) (QA.pa (qc (pv 0) (qc (xD (v := .ty "ValueError") (u := .type "ValueError") (by rfl) X.n_ve (by rfl) (by rfl)) qn)))) (qW (xG jf xQ (pv 1) (by with_unfolding_all rfl))))))))), ?_⟩
  refine ki (fun σ' H2 => ∃ r, σ' = [some (.ref e), some (.ref r)] ∧ Same H H2 ∧ H r = none ∧ H2 r = some (.lst ([false, false, false].map V.bl))) (fun R hR => ?_) ?_
  · refine ⟨_, rfl, .inl ⟨_, _, rfl, X.i_bp, ?_⟩⟩
    refine ⟨_, rfl, .inl ⟨_, _, rfl, X.i_bs, ?_⟩⟩
    refine ⟨_, rfl, .inl ⟨_, _, rfl, X.i_ba, ?_⟩⟩
    exact ⟨by show (3 : Nat) ≤ sizeLine; decide, fun p hp => hR _ _ ⟨p, rfl, zP hp, hp, ze⟩⟩
  rintro _ H2 ⟨r, rfl, hs2, hrn, hr2⟩
  refine ki (fun σ' H3 => σ' = [some (.ref e), some (.ref r)] ∧ Same H H3 ∧ H3 r = some (.lst ([false, false, false, false].map V.bl))) (fun R hR => ?_) ?_
  · walk_at "rd"
    exact ⟨.inl ⟨rfl, _, SqL.of hr2⟩, .inl ⟨X.i_un, _, hr2, by show (3 : Nat) < sizeLine; decide, hR _ _ ⟨rfl, xg hs2 hrn, ze⟩⟩⟩
  rintro _ H3 ⟨rfl, hs3, hr3⟩
  walk_at "rd"
  exact .inr ⟨X.i_bi, .inr ⟨X.i_ve, r, _, rfl, .inl (SqL.of hr3), rfl, rfl, hQ _ hs3⟩⟩
theorem u9 (F : Fun K "_law_refused" "_law_refused" yJ f fd) (T : Txt P w K mg bw sw hf) (X : TxtX K mg se bp bs bi ba un) (Kb : CalX P w K mg base 3 "ink_by_text" [] (yq K (xc bi))) (JZ : CalE P w K mg base 1 "_law_alone" bi u8) : FnOk P w K mg base CX0 4 f fd ["_law_thing"] (zf K qU) := by
  have nd := xy.nd
  refine F.ok xy (fun vs H Q E h => ?_) (fun cdv A outer sh H vs Q E hr h => ?_)
  · obtain ⟨Γ, O, ws, R, S1, r, ⟨d, rfl, _⟩, _⟩ := h
    rw [← Paired.length r]
    rfl
  · obtain ⟨Γ, O, ws, R, S1, r, ⟨d, rfl, sm, hR⟩, kk⟩ := h
    let Y : YK := fun C O' => C = bi ∧ (byT d).isNone = true ∧ O = O'
    refine ⟨_, zc (U4 (W := fun cc _ H1 => ∃ C Γ' O', cc = .ref C ∧ Le Γ Γ' ∧ Sim K Γ' O' H1 ∧ Y C O') (G := fun rt => ∀ Γ' O' H1 H2, Le Γ Γ' → Sim K Γ' O' H1 → Same H1 H2 → (byT d).isNone = true → O = O' → rt (.bl true) H2) (N := 2) (i := 1) rfl nd rfl rfl rfl X.c_ScreenError (fun C H1 z => ?hx)
      (fun pins Z L => zg (yZ (uJ Kb L.passes (hr.mono (by decide)) rfl (QA.pa (qc (pv 0) qn)))))
      ?hs) (zg (zq xQ)), ?_⟩
    case hx =>
      obtain ⟨C', Γ', O', e, _, _, hY⟩ := z
      cases e
      obtain ⟨rfl, _⟩ := hY
      exact X.i_se
    case hs =>
      intro pins e CC oe H1 rt hw he hm hc hd g
      obtain ⟨C', Γ', O', ec, hle, hsim, hY⟩ := hw
      cases ec
      obtain ⟨rfl, hno, hold⟩ := hY
      refine ⟨_, zg (zq (Uq JZ (List.mem_append_right _ hm) hc hd rfl rfl (RoomE.mono (j := 1) (k := 3) ⟨hr.dp, hr.un, hr.gd⟩ (by decide)) rfl (QA.pa (qc (pv 1) qn)))), ?_⟩
      exact ⟨_, rfl, rfl, fun H2 hs => g Γ' O' H1 H2 hle hsim hs hno hold⟩
    · show uA (Y2 _ _) _ _ _ _
      refine ⟨?_, fun Γ' O' H1 H2 hle hsim hsm hno hold => ?_⟩
      · have rf : ∀ T, yk K (fun E => vY (yp (yq K (xc bi)) [] E (xS (uz 0) uD))) T → T Y { nx := fun _ O' => (byT d).isNone = false ∧ O = O', rt := fun _ _ => False } (yf ["_law_thing", "_law_error"] [.d d]) O → _ := fun T hT h => hT (fun cc x H1 => ∃ C Γ' O', cc = Value.ref C ∧ Le Γ Γ' ∧ Sim K Γ' O' H1 ∧ Y C O') Y Γ O H _ _ { nx := qX (tC (V.bl false)) { nx := fun x H' => Q V.non H', rt := Q }, rt := Q } _ S1 (yA r) (fun Γ' O' H' C l S' hY => ⟨C, Γ', O', rfl, l, S', hY⟩) h ⟨fun Γ' O' H' ρ' σ' l S' _ e => kk Γ' O' H' _ _ l S' yn (by rw [← e.1, ← e.2]; exact hR), fun _ _ _ _ _ _ _ _ z => z.elim, fun _ _ _ _ _ _ _ _ z => z.elim, fun _ _ _ _ _ _ _ _ z => z.elim⟩
        apply rf
        · walk_at "ref"
        walk_at "wd"
        refine ⟨d, rfl, sm, fun n hn => ⟨by rw [hn]; rfl, rfl⟩, fun hn => ⟨rfl, by rw [hn]; rfl, rfl⟩⟩
      · refine kk Γ' O' H2 _ _ hle (hsim.grow hsm) yn ?_
        rw [← hno, ← hold]
        exact hR
end
theorem ZC {z : Str} (h : yo z = none) : byT (.str z) = none := by
  show (if zA (lik (Txt.split z sp1)) = z then some (lik (Txt.split z sp1)) else none) = none
  refine if_neg fun e => ?_
  have := uq (Ys (Txt.split z sp1))
  rw [e, h] at this
  cases this
theorem ux {z : Str} {n : Nat} (h : yo z = some n) : byT (.str z) = some n := by
  obtain ⟨h1, rfl⟩ := j4 h
  show (if zA (lik (Txt.split (zA n) sp1)) = zA n then some (lik (Txt.split (zA n) sp1)) else none) = some n
  rw [Ux h1, if_pos rfl]
noncomputable def qa : SpW := fun ws O R => ∃ z : Str, ws = [.d (.str z)] ∧ okZ z ∧ R (.d (.bool true)) O
theorem qb (n : Nat) : okM 50 (zA n) := by
  rw [uu]
  by_cases h0 : n = 0
  · rw [if_pos h0]
    have : (Str.ofString "plain").length ≤ 50 ∧ ∀ c ∈ (Str.ofString "plain").cps.toList, c < 128 := by decide +kernel
    exact this
  · rw [if_neg h0]
    refine jU (XN n) (XO n)
theorem qd (n : Nat) : okZ (zA n) := ⟨by have := (qb n).1; omega, (qb n).2⟩
theorem ZD {z : Str} (h : ∀ c ∈ z.cps.toList, c < 128) : SeqAt.shaped (.str z) = true := by
  unfold SeqAt.shaped
  rw [kL h]
  rfl
noncomputable def xY (n : Nat) : W := .d (.tuple [.int (n : Nat), .str (zA n)])
noncomputable def sLaw : SpW := fun ws O R => ∃ ns : List Int, ws = [.d (.list (ns.map .int))] ∧ ∀ O', R (.d (.bool true)) O'
noncomputable def ZE : List Str → List Value → Bool
  | [], [] => true
  | s :: ss, .str z _ :: vs => s == z && ZE ss vs
  | _, _ => false
theorem qE : ∀ {ss : List Str} {vs : List Value}, ZE ss vs = true → Vals (ss.map V.str) vs
  | [], [], _ => .nil
  | s :: ss, .str z t :: vs, h => by
    simp only [ZE, Bool.and_eq_true, beq_iff_eq] at h
    obtain ⟨rfl, h⟩ := h
    exact .cons ⟨t, rfl⟩ (qE h)
noncomputable def qe (K : PySem.W.Frag) (a : Addr) (ss : List Str) : Bool := match K.lookup a with
  | some o => o.cls == .type "tuple" && o.dict.isNone && (match o.data with
    | .seq its _ => decide (its.size ≤ 1000) && ZE ss its.toList
    | _ => false)
  | none => false
theorem jv {K : PySem.W.Frag} {a : Addr} {ss : List Str} (h : qe K a ss = true) : (∃ o, K.lookup a = some o ∧ o.cls = .type "tuple" ∧ o.dict = none) ∧ ∀ Z : Hp, SqT K Z a (ss.map V.str) := by
  unfold qe at h
  split at h
  · rename_i o ho
    simp only [Bool.and_eq_true] at h
    obtain ⟨⟨h1, h2⟩, h3⟩ := h
    have h1 := beq_iff_eq.mp h1
    refine ⟨⟨o, ho, h1, by simpa using h2⟩, fun Z => .inr ?_⟩
    split at h3
    · rename_i its n hd
      simp only [Bool.and_eq_true, decide_eq_true_iff] at h3
      exact ⟨o, its, n, ho, h1, hd, by rw [sizeLine_eq]; omega, qE h3.2⟩
    · cases h3
  · cases h
section
variable {P : Program} {w : World} {K : PySem.W.Frag} {mg : Str → Option Value} {base : Heap} {f : Addr} {fd : FuncData} {bw sw hf : Addr} {se bp bs bi ba un : Addr}
theorem jW (F : Fun K "_law_right" "_law_right" xt f fd) (T : Txt P w K mg bw sw hf) (J4 : Cal P w K mg base 1 "_law_ink" [] (zf K ZA)) (J5 : Cal P w K mg base 4 "_law_refused" [] (zf K qU)) (Kb : CalX P w K mg base 3 "ink_by_text" [] (yq K (xc bi))) (J8 : Cal P w K mg base 1 "_law_whole" [] (zf K u4)) : FnOk P w K mg base CX0 5 f fd ["_law_text_here"] (zf K qa) := by
  have nd := x4.nd
  apply F.okV x4 (by rintro _ _ _ ⟨a, rfl, _⟩; rfl) (fun cdv A outer sh H E hr => (zc (zm (i := 1) nd rfl (Or.inl rfl) (zE J4 (hr.mono (by decide)) rfl (QA.pa (qc (pv 0) qn))))
      (zc (zL (zr UQ (pv 1) vS (zt _)) (zg (zq (zE J5 (hr.mono (by decide)) rfl (QA.pa (qc (pv 0) qn))))) zu)
      (zc (zm (i := 2) nd rfl (Or.inl rfl) (uJ Kb XX (hr.mono (by decide)) rfl (QA.pa (qc (pv 0) qn))))
      (zg (zq (vX (zE J8 (hr.mono (by decide)) rfl (QA.pa (qc (pv 2) qn))) (qW (xG yL (pv 2) (pv 1) (zt _))))))))))
  · walk_at "ref"
  rintro _ O R ⟨z, rfl, hz, h⟩
  walk_at "wd"
  refine ⟨z, rfl, hz, ?_⟩
  cases hl : yo z with
  | none =>
    refine (iff_of_eq (if_pos rfl)).mpr ⟨_, rfl, hz.1, .inl ?_⟩
    rw [ZC hl]
    exact h
  | some n =>
    have hb := ux hl
    refine (iff_of_eq (if_neg (by simp [QZ]))).mpr ⟨_, rfl, hz.1, fun m hm => ⟨m, rfl, .inr ⟨rfl, .inl ?_⟩⟩, fun hn => ?_⟩
    · rw [hb] at hm
      cases hm
      rw [decide_eq_true rfl]
      exact h
    · rw [hb] at hn
      cases hn
theorem Q2 (F : Fun K "law" "law" Zx f fd) (T : Txt P w K mg bw sw hf) (J0 : Cal P w K mg base 1 "_law_at" [] (zf K XJ)) (Kc : Cal P w K mg base 2 "ink_text" [] (zf K qT)) (J7 : Cal P w K mg base 1 "_law_text" [] (zf K jM)) (J6 : Cal P w K mg base 5 "_law_right" [] (zf K qa)) (J1 : Cal P w K mg base 1 "_law_bent" [] (zf K jR)) (J5 : Cal P w K mg base 4 "_law_refused" [] (zf K qU)) (Kb : CalX P w K mg base 3 "ink_by_text" [] (yq K (xc bi))) : FnOk P w K mg base CX0 6 f fd ["_law_script"] (zf K sLaw) := by
  have nd := Yw.nd
  apply F.okV Yw (by rintro _ _ _ ⟨a, rfl, _⟩; rfl) (fun cdv A outer sh H E hr => (zc (zm (i := 1) nd rfl (Or.inl rfl) (V7 qn))
      (zc (x6 PassesOwn.never rfl (xu rfl T.n_range (QA.pa (qc (zd zD zb (zy (ZK rfl) (by rfl) T.n_min (by rfl) (QA.pa (qc (zy (ve (K := K) rfl) (by rfl) T.n_len (by rfl) (QA.pa (qc (pv 0) qn))) (qc zb qn))))) qn))) (zS (i := 2) nd rfl (Or.inl rfl))
      (zc (zm (i := 3) nd rfl (Or.inl rfl) (zd ya (zd zx (zE J0 (hr.mono (by decide)) rfl (QA.pa (qc (pv 0) (qc (pv 2) qn)))) zb) (yP qg (by rfl) T.n_int rfl (QA.pa (qc (xG qK (zd zx (zd z7 (zE J0 (hr.mono (by decide)) rfl (QA.pa (qc (pv 0) (qc (pv 2) qn)))) zb) zb) zb (zt _)) qn)))))
      (zc (zm (i := 4) nd rfl (Or.inl rfl) (zE Kc (hr.mono (by decide)) rfl (QA.pa (qc (pv 3) qn))))
      (zc (zL (PW.pt (vW (xF (xE (zy (ul (K := K) rfl) (by rfl) T.n_isinstance (by rfl) (QA.pa (qc (pv 4) (qc (xD (v := .ty "str") (u := .type "str") rfl T.n_str rfl rfl) qn)))))) (vW (zr kX (pv 4) (zE J7 (hr.mono (by decide)) rfl (QA.pa (qc (pv 3) qn))) (zt _)) (vV (xF (xE (zE J6 (hr.mono (by decide)) rfl (QA.pa (qc (pv 4) qn))))))))) (zg (zq xQ)) zu)
      (zc (yZ (zV (K := K) rfl PySem.F.plainAttrs_list PySem.F.slot_list_append PySem.F.type_list_append yt (pv 1) (QA.pa (qc (xJ (qc (pv 3) (qc (pv 4) qn))) qn))))
      (zc (zm (i := 5) nd rfl (Or.inl rfl) (zE J1 (hr.mono (by decide)) rfl (QA.pa (qc (pv 4) (qc (zE J0 (hr.mono (by decide)) rfl (QA.pa (qc (pv 0) (qc (zd zD zb (zd ya zb (pv 2))) qn)))) qn)))))
      (zc (zm (i := 6) nd rfl (Or.inl rfl) (zE J1 (hr.mono (by decide)) rfl (QA.pa (qc (pv 5) (qc (zE J0 (hr.mono (by decide)) rfl (QA.pa (qc (pv 0) (qc (zd zD zb (zd ya zb (pv 2))) qn)))) qn)))))
      (zc (zL (PW.pt (vW (xF (xE (zE J6 (hr.mono (by decide)) rfl (QA.pa (qc (pv 5) qn))))) (vV (xF (xE (zE J6 (hr.mono (by decide)) rfl (QA.pa (qc (pv 6) qn)))))))) (zg (zq xQ)) zu)
      (zc (zm (i := 7) nd rfl (Or.inl rfl) (yy (yM (K := K) rfl) (zC (qc vS (qc zb (qc xQ (qc (zC (qc (pv 4) qn)) (qc (xJ (qc (pv 4) qn)) (qc Y5 (qc (zC qn) (qc zb qn))))))))) (zd zx (zE J0 (hr.mono (by decide)) rfl (QA.pa (qc (pv 0) (qc (zd zD zb (pv 2)) qn)))) zb) (fun _ _ => rfl)))
      (zg (zL (xF (xE (zE J5 (hr.mono (by decide)) rfl (QA.pa (qc (pv 7) qn))))) (zg (zq xQ)) zu)))))))))))
      (zg (zq (xG (ue (K := K) rfl hr.units) (Q5 (YX (N := ["_law_ink_here", "_law_told"]) (n := 2) (js := [])) rfl (ju (K := K) rfl (pv 1)) (fun _ _ _ _ => (uR (K := K) (n := 2) rfl rfl (yE (zS (i := 0) (show List.Nodup (["_law_ink_here", "_law_told"] : List Str) by decide +kernel) rfl (Or.inl rfl)) (yE (zS (i := 1) (show List.Nodup (["_law_ink_here", "_law_told"] : List Str) by decide +kernel) rfl (Or.inl rfl)) uB)))) (fun _ _ _ _ => (uH (PW.pt (vW (zr (Z3 (K := K) rfl hr.units) (uJ Kb XX (hr.mono (by decide)) rfl (QA.pa (qc (pv 1) qn))) (pv 0) (zt _)) (vV (zr (Z3 (K := K) rfl hr.units) (zE Kc (hr.mono (by decide)) rfl (QA.pa (qc (pv 0) qn))) (pv 1) (zt _))))))) (fun _ _ _ _ => (pv 0))) (zC qn) (zt _)))))))
  · walk_at "ref"
  rintro _ O R ⟨ns, rfl, h⟩
  have ll : ∀ O' : OM, uN O' (.d (.list (ns.map PyData.int))) = some ns.length := fun O' => by rw [vw, List.length_map]
  refine yg (fun ρ' O' => ∃ p, ρ' = [some (.d (.list (ns.map .int))), some (.own p), none, none, none, none, none, none] ∧ O' p = some (.lst [])) (fun R1 hR1 => ?_) ?_
  · walk_at "wd"
    exact fun p hp => hR1 _ _ ⟨p, rfl, zp⟩
  rintro _ O1 ⟨p, rfl, hp⟩
  refine yg (fun ρ' O' => ∃ v2 v3 v4 v5 v6 v7, ∃ L : List Nat, ρ' = [some (.d (.list (ns.map .int))), some (.own p), v2, v3, v4, v5, v6, v7] ∧ L.length ≤ 44 ∧ (∀ n ∈ L, n < 512) ∧ O' p = some (.lst (L.map xY))) (fun R1 hR1 => ?_) ?_
  · walk_at "wd"
    refine ⟨_, ll _, ?_, ?_, ?_⟩
    · split <;> omega
    · split <;> omega
    have hn : (4 + if 40 < (ns.length : Int) then 40 else (ns.length : Int)).toNat ≤ 44 := by split <;> omega
    generalize (4 + if 40 < (ns.length : Int) then 40 else (ns.length : Int)).toNat = N at hn
    refine yB.rng (fun i ρ O' => ∃ v2 v3 v4 v5 v6 v7, ∃ L : List Nat, ρ = [some (.d (.list (ns.map .int))), some (.own p), v2, v3, v4, v5, v6, v7] ∧ L.length = i ∧ (∀ n ∈ L, n < 512) ∧ O' p = some (.lst (L.map xY))) ⟨_, _, _, _, _, _, [], rfl, rfl, (fun n hn => nomatch hn), hp⟩ ?_ ?_
    · rintro i _ O2 hi ⟨v2, v3, v4, v5, v6, v7, L, rfl, hL, hL5, hO2⟩ R2 hR2
      simp only [ud, List.set]
      refine yg (fun ρ' O' => O2 = O' ∧ ∃ n : Nat, n < 512 ∧ ρ' = [some (.d (.list (ns.map .int))), some (.own p), some (.d (.int i)), some (.d (.int (n : Nat))), v4, v5, v6, v7]) (fun R3 hR3 => ?_) ?_
      · walk_at "wd"
        refine ⟨ns, i, rfl, by omega, by omega, fun a a0 a1 => ⟨by decide, ns, i, rfl, by omega, by omega, fun b b0 b1 => ⟨⟨by decide, by decide⟩, mulL ?_ ?_, ?_⟩⟩⟩
        · have := Int.emod_nonneg a (show (512 : Int) ≠ 0 by decide)
          omega
        · have := Int.emod_lt_of_pos a (show (0 : Int) < 512 by decide)
          omega
        · obtain ⟨m, hm⟩ := Int.eq_ofNat_of_zero_le (Int.emod_nonneg a (show (512 : Int) ≠ 0 by decide))
          have hm5 := Int.emod_lt_of_pos a (show (0 : Int) < 512 by decide)
          rw [hm]
          split
          · exact hR3 _ _ ⟨rfl, m, by omega, by rw [Int.mul_one]⟩
          · exact hR3 _ _ ⟨rfl, 0, by omega, by rw [Int.mul_zero]; rfl⟩
      rintro _ _ ⟨rfl, n, hn5, rfl⟩
      refine yg (fun ρ' O' => O2 = O' ∧ ρ' = [some (.d (.list (ns.map .int))), some (.own p), some (.d (.int i)), some (.d (.int (n : Nat))), some (.d (.str (zA n))), v5, v6, v7]) (fun R3 hR3 => ?_) ?_
      · walk_at "wd"
        exact ⟨n, rfl, hn5, hR3 _ _ ⟨rfl, rfl⟩⟩
      rintro _ _ ⟨rfl, rfl⟩
      refine yg (fun ρ' O' => O2 = O' ∧ ρ' = [some (.d (.list (ns.map .int))), some (.own p), some (.d (.int i)), some (.d (.int (n : Nat))), some (.d (.str (zA n))), v5, v6, v7]) (fun R3 hR3 => ?_) ?_
      · walk_at "wd"
        refine ⟨n, rfl, hn5, rfl, rfl, rfl, ?_⟩
        refine (iff_of_eq (if_pos (decide_eq_true (by rfl)))).mpr ?_
        refine ⟨_, rfl, qd n, ?_⟩
        exact (iff_of_eq (if_pos rfl)).mpr (hR3 _ _ ⟨rfl, rfl⟩)
      rintro _ _ ⟨rfl, rfl⟩
      refine yg (fun ρ' O' => O' p = some (.lst ((L ++ [n]).map xY)) ∧ ρ' = [some (.d (.list (ns.map .int))), some (.own p), some (.d (.int i)), some (.d (.int (n : Nat))), some (.d (.str (zA n))), v5, v6, v7]) (fun R3 hR3 => ?_) ?_
      · walk_at "wd"
        refine ⟨.inl ⟨rfl, by simp [zB, hO2]⟩, updO O2 p (.lst ((L ++ [n]).map xY)), ?_, hR3 _ _ ⟨zp, rfl⟩⟩
        simp only [uO, hO2]
        rw [if_pos (by rw [List.length_map]; omega), List.map_append]
        rfl
      rintro _ O5 ⟨hO5, rfl⟩
      refine Vy (fun ρ' O' => O5 = O' ∧ ∃ z1 z2, okM 120 z1 ∧ okM 260 z2 ∧ ρ' = [some (.d (.list (ns.map .int))), some (.own p), some (.d (.int i)), some (.d (.int (n : Nat))), some (.d (.str (zA n))), some (.d (.str z1)), some (.d (.str z2)), v7]) (fun R3 hR3 => ?_) ?_
      · walk_at "wd"
        refine ⟨mulL (by decide) (by decide), ns, _, rfl, by omega, by omega, fun a a0 a1 => ⟨zA n, a, 50, rfl, qb n, by decide, a0, by omega, fun z1 hz1 => ⟨mulL (by decide) (by decide), ns, _, rfl, by omega, by omega, fun b b0 b1 => ⟨z1, b, 120, rfl, hz1, by decide, b0, by omega, fun z2 hz2 => hR3 _ _ ⟨rfl, z1, z2, hz1, hz2, rfl⟩⟩⟩⟩⟩
      rintro _ _ ⟨rfl, z1, z2, hz1, hz2, rfl⟩
      refine yg (fun ρ' O' => O5 = O' ∧ ρ' = [some (.d (.list (ns.map .int))), some (.own p), some (.d (.int i)), some (.d (.int (n : Nat))), some (.d (.str (zA n))), some (.d (.str z1)), some (.d (.str z2)), v7]) (fun R3 hR3 => ?_) ?_
      · walk_at "wd"
        refine ⟨z1, rfl, ⟨by have := hz1.1; omega, hz1.2⟩, ?_⟩
        show (if true = true then _ else _)
        rw [if_pos rfl]
        refine ⟨z2, rfl, ⟨by have := hz2.1; omega, hz2.2⟩, ?_⟩
        exact (iff_of_eq (if_pos rfl)).mpr (hR3 _ _ ⟨rfl, rfl⟩)
      rintro _ _ ⟨rfl, rfl⟩
      refine yg (fun ρ' O' => O5 = O' ∧ ∃ d, jH d ∧ byT d = none ∧ ρ' = [some (.d (.list (ns.map .int))), some (.own p), some (.d (.int i)), some (.d (.int (n : Nat))), some (.d (.str (zA n))), some (.d (.str z1)), some (.d (.str z2)), some (.d d)]) (fun R3 hR3 => ?_) ?_
      · walk_at "wd"
        refine ⟨ns, _, rfl, by omega, by omega, fun a a0 a1 => ⟨by decide, _, rfl, ?_⟩⟩
        obtain ⟨j, hj⟩ := Int.eq_ofNat_of_zero_le (Int.emod_nonneg a (show (8 : Int) ≠ 0 by decide))
        have hj8 := Int.emod_lt_of_pos a (show (0 : Int) < 8 by decide)
        rw [hj]
        have hj8' : j < 8 := by omega
        match j, hj8' with
        | 0, _ => exact ⟨_, rfl, hR3 _ _ ⟨rfl, .none, trivial, rfl, rfl⟩⟩
        | 1, _ => exact ⟨_, rfl, hR3 _ _ ⟨rfl, .int 5, trivial, rfl, rfl⟩⟩
        | 2, _ => exact ⟨_, rfl, hR3 _ _ ⟨rfl, .bool true, trivial, rfl, rfl⟩⟩
        | 3, _ => exact ⟨_, rfl, hR3 _ _ ⟨rfl, .list [.str (zA n)], trivial, rfl, rfl⟩⟩
        | 4, _ => exact ⟨_, rfl, hR3 _ _ ⟨rfl, .tuple [.str (zA n)], trivial, rfl, rfl⟩⟩
        | 5, _ => exact ⟨_, rfl, hR3 _ _ ⟨rfl, .dict [], trivial, rfl, rfl⟩⟩
        | 6, _ => exact ⟨_, rfl, hR3 _ _ ⟨rfl, .list [], trivial, rfl, rfl⟩⟩
        | 7, _ => exact ⟨_, rfl, hR3 _ _ ⟨rfl, .int 0, trivial, rfl, rfl⟩⟩
      rintro _ _ ⟨rfl, d, hd1, hd2, rfl⟩
      walk_at "wd"
      refine ⟨d, rfl, hd1, ?_⟩
      rw [hd2]
      exact (iff_of_eq (if_pos rfl)).mpr (hR2 _ _ ⟨_, _, _, _, _, _, L ++ [n], rfl, by rw [List.length_append, hL]; rfl, fun m hm => (List.mem_append.1 hm).elim (hL5 m) fun e => by cases List.mem_singleton.1 e; exact hn5, hO5⟩)
    · rintro _ O2 ⟨v2, v3, v4, v5, v6, v7, L, rfl, hL, hL5, hO2⟩
      exact hR1 _ _ ⟨v2, v3, v4, v5, v6, v7, L, rfl, by omega, hL5, hO2⟩
  rintro _ O2 ⟨v2, v3, v4, v5, v6, v7, L, rfl, hL, hL5, hO2⟩
  walk_at "wd"
  have fm : List.filterMap (fun _ => (none : Option PyData)) (L.map xY) = [] := by
    generalize L.map xY = l
    induction l with
    | nil => rfl
    | cons a l ih => rw [List.filterMap_cons]; exact ih
  have hs : zB O2 (.own p) = some (L.map xY) := by simp only [zB, hO2]
  refine ⟨_, hs, by rw [List.length_map]; omega, fun _ => none, ?_, _, rfl, _, rfl, ?_, rfl, .inl ?_⟩
  · intro q hq us hu
    obtain ⟨n, hn, rfl⟩ := List.mem_map.1 hq
    have hn5 := hL5 n hn
    obtain ⟨u1, u2, rfl⟩ : ∃ a b, us = [a, b] := by
      match us, hu with
      | [a, b], _ => exact ⟨a, b, rfl⟩
    have hb : byT (.str (zA n)) = some n := ux (uq hn5)
    refine ⟨_, rfl, rfl, _, _, rfl, _, _, rfl, rfl, rfl, Nat.le_refl _, ?_⟩
    refine ⟨_, rfl, (qd n).1, fun m hm => ?_, fun e => ?_⟩
    · rw [hb] at hm
      cases hm
      have si : SeqAt.shaped (.int (n : Nat)) = true := rfl
      have ss : SeqAt.shaped (.str (zA n)) = true := ZD (qd n).2
      refine ⟨_, rfl, _, rfl, si, si, (iff_of_eq (if_pos (by simp [PyData.eqv]))).mpr ⟨n, rfl, hn5, _, rfl, _, rfl, ss, ss, (iff_of_eq (if_pos (by simp [PyData.eqv]))).mpr ⟨rfl, rfl⟩⟩⟩
    · rw [hb] at e
      cases e
  · rw [fm]
    rfl
  · rw [fm]
    exact h _
end
theorem fk {K : PySem.W.Frag} {h : Heap} {mg : Str → Option Value} {x : Str} {st : Stmt} {f : Addr} {oc kV doc pm cd ct : Value} {od an : Option Addr} {sl : Array (Option Value)} (X : K.In h) (G : h.Ns mainGlobals mg)
    (a : PySem.W.nsIn K mainGlobals x = some (some (.ref f))) (l : K.lookup f = some ⟨oc, od, .func (PySem.W.fnOf x x (defArgs st) (defBody st) (defScope st) .none kV doc pm an cd ct), sl⟩) (c : PySem.W.codeIn K cd x = true) (k : PySem.W.keepIn K (.ref f) = true) :
    ∃ f fd, Fun K x x st f fd ∧ mg x = some (.ref f) := ⟨f, _, U1 (st := st) l c k, PySem.W.mg_of X G a⟩
theorem all_mk {P : Program} {w : World} {K : PySem.W.Frag} {mg : Str → Option Value} {fa se bp bs bi ba un : Addr} {bw sw hf : Addr} (T : Txt P w K mg bw sw hf) (X : TxtX K mg se bp bs bi ba un) (hfa : mg "law" = some (.ref fa))
    (Kt : ∃ f fd, Fun K "_law_at" "_law_at" vm f fd ∧ mg "_law_at" = some (.ref f))
    (KB : ∃ f fd, Fun K "fore_of" "fore_of" vj f fd ∧ mg "fore_of" = some (.ref f))
    (KA : ∃ f fd, Fun K "back_of" "back_of" vk f fd ∧ mg "back_of" = some (.ref f))
    (KD : ∃ f fd, Fun K "ink_text" "ink_text" yY f fd ∧ mg "ink_text" = some (.ref f))
    (Ky : ∃ f fd, Fun K "_law_text" "_law_text" yO f fd ∧ mg "_law_text" = some (.ref f))
    (Kv : ∃ f fd, Fun K "_law_ink" "_law_ink" xW f fd ∧ mg "_law_ink" = some (.ref f))
    (KG : ∃ f fd, Fun K "likely_ink" "likely_ink" xo f fd ∧ mg "likely_ink" = some (.ref f))
    (KC : ∃ f fd, Fun K "ink_by_text" "ink_by_text" yU f fd ∧ mg "ink_by_text" = some (.ref f))
    (Ks : ∃ f fd, Fun K "_law_alone" "_law_alone" yD f fd ∧ mg "_law_alone" = some (.ref f))
    (Kw : ∃ f fd, Fun K "_law_refused" "_law_refused" yJ f fd ∧ mg "_law_refused" = some (.ref f))
    (Kz : ∃ f fd, Fun K "_law_whole" "_law_whole" xq f fd ∧ mg "_law_whole" = some (.ref f))
    (Kx : ∃ f fd, Fun K "_law_right" "_law_right" xt f fd ∧ mg "_law_right" = some (.ref f))
    (Ku : ∃ f fd, Fun K "_law_bent" "_law_bent" xA f fd ∧ mg "_law_bent" = some (.ref f))
    (KF : ∃ f fd, Fun K "law" "law" Zx f fd ∧ mg "law" = some (.ref f)) :
    ∃ fd : FuncData, (∀ (s : Shared) (v : Value), BindsTo s fd ⟨[v], []⟩ [("_law_script", v)]) ∧ ∀ base : Heap, K.In base → base.Ns mainGlobals mg → FnOk P w K mg base CX0 6 fa fd ["_law_script"] (zf K sLaw) := by
  obtain ⟨KI, Kf, JM, KZ⟩ := Kt
  obtain ⟨KQ, Kn, JU, K7⟩ := KB
  obtain ⟨KP, Km, JT, K6⟩ := KA
  obtain ⟨KS, Kp, JW, K9⟩ := KD
  obtain ⟨KN, Kk, JR, K4⟩ := Ky
  obtain ⟨KK, Kh, JO, K1⟩ := Kv
  obtain ⟨KW, Kr, JY, zab⟩ := KG
  obtain ⟨KR, Ko, JV, K8⟩ := KC
  obtain ⟨KH, Ke, JL, KY⟩ := Ks
  obtain ⟨KL, Ki, JP, K2⟩ := Kw
  obtain ⟨KO, Kl, JS, K5⟩ := Kz
  obtain ⟨KM, Kj, JQ, K3⟩ := Kx
  obtain ⟨KJ, Kg, JN, K0⟩ := Ku
  obtain ⟨KU, Kq, JX, zaa⟩ := KF
  rw [hfa] at zaa
  cases zaa
  refine ⟨Kq, fun s v => ?_, fun base _ _ => ?_⟩
  · obtain ⟨oc, od, kV, doc, pm, an, cdv, ct, osl, rfl, _⟩ := JX.ex
    exact .of_eq rfl
  have J0 : Cal P w K mg base 1 "_law_at" [] (zf K XJ) := ⟨KI, Kf, _, [], YA JM T, KZ, JM.kp, JM.binds fun _ _ _ _ _ _ us hl => match us, hl with | [_, _], _ => rfl, .nil⟩
  have Ka : Cal P w K mg base 1 "fore_of" [] (zf K qR) := ⟨KQ, Kn, _, [], Zy JU T, K7, JU.kp, JU.binds fun _ _ _ _ _ _ us hl => match us, hl with | [_], _ => rfl, .nil⟩
  have J9 : Cal P w K mg base 1 "back_of" [] (zf K qS) := ⟨KP, Km, _, [], Zz JT T, K6, JT.kp, JT.binds fun _ _ _ _ _ _ us hl => match us, hl with | [_], _ => rfl, .nil⟩
  have Kc : Cal P w K mg base 2 "ink_text" [] (zf K qT) := ⟨KS, Kp, _, [], j6 JW T Ka J9, K9, JW.kp, JW.binds fun _ _ _ _ _ _ us hl => match us, hl with | [_], _ => rfl, .nil⟩
  have J7 : Cal P w K mg base 1 "_law_text" [] (zf K jM) := ⟨KN, Kk, _, [], j7 JR T, K4, JR.kp, JR.binds fun _ _ _ _ _ _ us hl => match us, hl with | [_], _ => rfl, .nil⟩
  have J4 : Cal P w K mg base 1 "_law_ink" [] (zf K ZA) := ⟨KK, Kh, _, [], ZB JO T, K1, JO.kp, JO.binds fun _ _ _ _ _ _ us hl => match us, hl with | [_], _ => rfl, .nil⟩
  have Kd : Cal P w K mg base 1 "likely_ink" [] (zf K XI) := ⟨KW, Kr, _, [], qJ JY T, zab, JY.kp, JY.binds fun _ _ _ _ _ _ us hl => match us, hl with | [_], _ => rfl, .nil⟩
  have Kb : CalX P w K mg base 3 "ink_by_text" [] (yq K (xc bi)) := ⟨KR, Ko, _, [], u5 JV T X Kd Kc, K8, JV.kp, JV.binds fun _ _ _ _ _ _ us hl => match us, hl with | [_], _ => rfl, .nil⟩
  have JZ : CalE P w K mg base 1 "_law_alone" bi u8 := ⟨KH, Ke, _, jV JL T X, KY, JL.kp, JL.binds fun _ _ _ _ _ _ us hl => match us, hl with | [_], _ => rfl⟩
  have J5 : Cal P w K mg base 4 "_law_refused" [] (zf K qU) := ⟨KL, Ki, _, [], u9 JP T X Kb JZ, K2, JP.kp, JP.binds fun _ _ _ _ _ _ us hl => match us, hl with | [_], _ => rfl, .nil⟩
  have J8 : Cal P w K mg base 1 "_law_whole" [] (zf K u4) := ⟨KO, Kl, _, [], jN JS T, K5, JS.kp, JS.binds fun _ _ _ _ _ _ us hl => match us, hl with | [_], _ => rfl, .nil⟩
  have J6 : Cal P w K mg base 5 "_law_right" [] (zf K qa) := ⟨KM, Kj, _, [], jW JQ T J4 J5 Kb J8, K3, JQ.kp, JQ.binds fun _ _ _ _ _ _ us hl => match us, hl with | [_], _ => rfl, .nil⟩
  have J1 : Cal P w K mg base 1 "_law_bent" [] (zf K jR) := ⟨KJ, Kg, _, [], j8 JN T, K0, JN.kp, JN.binds fun _ _ _ _ _ _ us hl => match us, hl with | [_, _], _ => rfl, .nil⟩
  exact Q2 JX T J0 Kc J7 J6 J1 J5 Kb
theorem txt_mk {P : Program} {w : World} {bw sw hf : Addr} {K : PySem.W.Frag} {h : Heap} {mg : Str → Option Value}  (X : K.In h) (G : h.Ns mainGlobals mg)
    (n_len : PySem.W.nsIn K mainGlobals "len" = some none)
    (n_range : PySem.W.nsIn K mainGlobals "range" = some none)
    (n_int : PySem.W.nsIn K mainGlobals "int" = some none)
    (n_bool : PySem.W.nsIn K mainGlobals "bool" = some none)
    (n_str : PySem.W.nsIn K mainGlobals "str" = some none)
    (n_isinstance : PySem.W.nsIn K mainGlobals "isinstance" = some none)
    (n_min : PySem.W.nsIn K mainGlobals "min" = some none)
    (g_bw : PySem.W.nsIn K mainGlobals "BITS_BY_WORD" = some (some (.ref bw)))
    (g_sw : PySem.W.nsIn K mainGlobals "STEPS_BY_WORD" = some (some (.ref sw)))
    (g_hf : PySem.W.nsIn K mainGlobals "HUE_FIGURES" = some (some (.ref hf)))
    (d_bw : DS P w K bw bitsD)
    (d_sw : DS P w K sw stepsD)
    (d_hf : qe K hf figs = true)
    : Txt P w K mg bw sw hf :=
  ⟨PySem.W.mg_none_of X G n_len, PySem.W.mg_none_of X G n_range, PySem.W.mg_none_of X G n_int, PySem.W.mg_none_of X G n_bool, PySem.W.mg_none_of X G n_str, PySem.W.mg_none_of X G n_isinstance, PySem.W.mg_none_of X G n_min, PySem.W.mg_of X G g_bw, PySem.W.mg_of X G g_sw, PySem.W.mg_of X G g_hf, d_bw, d_sw, (jv d_hf).1, (jv d_hf).2⟩
theorem xclass_mk {K : PySem.W.Frag} {C : Addr} (ga : PySem.W.findIn K (.ref C) "__getattribute__" = some (some (.builtin "BaseException.__getattribute__"))) (gh : PySem.W.findIn K (.ref C) "__getattr__" = some none)
    (cl : PySem.W.findIn K (.ref C) "__class__" = some (some (.builtin "object.__class__"))) (sp : PySem.W.specialIn K (.builtin "object.__class__") "__get__" = some (some (.builtin "getset_descriptor.__get__"))) (tk : PySem.W.takesIn K (.builtin "object.__class__") = some true)
    (mo : PySem.W.mroIn K C (.type "object") = some true) (mb : PySem.W.mroIn K C (.type "BaseException") = some true) (hd : PySem.W.hasDictIn K C = true) : XClass K C :=
  ⟨ga, gh, cl, sp, tk, mo, mb, by
    obtain ⟨cd, hc, _⟩ := PySem.W.any_some hd
    rw [hc]
    rfl⟩
theorem txtx_mk {K : PySem.W.Frag} {h : Heap} {mg : Str → Option Value} {se bp bs bi ba un : Addr} (X : K.In h) (G : h.Ns mainGlobals mg) (c_se : PySem.W.nsIn K mainGlobals "ScreenError" = some (some (.ref se))) (c_bp : PySem.W.nsIn K mainGlobals "BadPicture" = some (some (.ref bp))) (c_bs : PySem.W.nsIn K mainGlobals "BadSize" = some (some (.ref bs))) (c_bi : PySem.W.nsIn K mainGlobals "BadInk" = some (some (.ref bi))) (c_ba : PySem.W.nsIn K mainGlobals "BadPaper" = some (some (.ref ba))) (c_un : PySem.W.nsIn K mainGlobals "Unlike" = some (some (.ref un))) (nv : PySem.W.nsIn K mainGlobals "ValueError" = some none) (xm_bi : PySem.W.excIn K bi [.type "ValueError", .type "Exception", .type "BaseException", .type "object"] "ValueError.__new__" = true) (xc_bi : XClass K bi) (k_bi_se : PySem.W.exmOne K (.ref bi) (.ref se) = some true) (k_bi_bp : PySem.W.kitOne K (.ref bi) (.ref bp) = some false) (k_bi_bs : PySem.W.kitOne K (.ref bi) (.ref bs) = some false) (k_bi_bi : PySem.W.kitOne K (.ref bi) (.ref bi) = some true) (k_bi_ba : PySem.W.kitOne K (.ref bi) (.ref ba) = some false) (k_bi_un : PySem.W.kitOne K (.ref bi) (.ref un) = some false) (k_bi_ve : PySem.W.kitOne K (.ref bi) (.type "ValueError") = some true) : TxtX K mg se bp bs bi ba un :=
  ⟨PySem.W.mg_of X G c_se, PySem.W.mg_of X G c_bp, PySem.W.mg_of X G c_bs, PySem.W.mg_of X G c_bi, PySem.W.mg_of X G c_ba, PySem.W.mg_of X G c_un, PySem.W.mg_none_of X G nv, ⟨⟨_, _, _, _, PySem.F.excBase_ValueError, xm_bi⟩⟩, xc_bi, k_bi_se, k_bi_bp, k_bi_bs, k_bi_bi, k_bi_ba, k_bi_un, k_bi_ve⟩
end K02
noncomputable def PySem.W.Fast.tw10425546649567532367 : Unit := ()
noncomputable def PySem.W.Fast.tw8546213909752380008 : Unit := ()
noncomputable def PySem.W.Fast.tw13965652601331495004 : Unit := ()
noncomputable def PySem.W.Fast.tw424092151522383657 : Unit := ()
noncomputable def PySem.W.Fast.tw2542791524415116421 : Unit := ()
noncomputable def PySem.W.Fast.tw13851292820896775793 : Unit := ()
noncomputable def PySem.W.Fast.tw5475535404276730762 : Unit := ()
noncomputable def PySem.W.Fast.tw16073313734206572827 : Unit := ()
noncomputable def PySem.W.Fast.tw13107321698422790276 : Unit := ()
noncomputable def PySem.W.Fast.tw16921532894557566053 : Unit := ()
noncomputable def PySem.W.Fast.tw9286913126697044654 : Unit := ()
noncomputable def PySem.W.Fast.tw2764425446095977824 : Unit := ()
noncomputable def PySem.W.Fast.tw10849623023718591029 : Unit := ()
noncomputable def PySem.W.Fast.tw15774061776402782961 : Unit := ()
noncomputable def PySem.W.Fast.tw4343508627684531117 : Unit := ()
noncomputable def PySem.W.Fast.tw12741668013024887802 : Unit := ()
noncomputable def PySem.W.Fast.tw8431375803780993407 : Unit := ()
noncomputable def PySem.W.Fast.tw16444748285436151847 : Unit := ()
noncomputable def PySem.W.Fast.tw15054140494642031071 : Unit := ()
noncomputable def PySem.W.Fast.tw1276526041169830803 : Unit := ()
noncomputable def PySem.W.Fast.tw15706768551462379219 : Unit := ()
noncomputable def PySem.W.Fast.tw15892674560613325417 : Unit := ()
noncomputable def PySem.W.Fast.tw14353704947883419765 : Unit := ()
noncomputable def PySem.W.Fast.tw16220858883949498716 : Unit := ()
noncomputable def PySem.W.Fast.tw18087321530002715412 : Unit := ()
noncomputable def PySem.W.Fast.tw3772191295114037739 : Unit := ()
noncomputable def PySem.W.Fast.tw9926785312082476782 : Unit := ()
noncomputable def PySem.W.Fast.tw2666303014476683894 : Unit := ()
noncomputable def PySem.W.Fast.tw16810277481086795119 : Unit := ()
noncomputable def PySem.W.Fast.tw5326218140197159396 : Unit := ()
open PySem PySem.W PyProof.Rows
set_option maxRecDepth 100000 in
set_option maxHeartbeats 0 in
theorem PySem.Challenge.cw_signscreen_k02_ink_texts_holds : PySem.Challenge.rw_signscreen_k02_ink_texts.Holds := by
  w_on; o_law; k_head; (case hw => w_witness2)
  k_fill
  refine L2.walkW (l := PySem.Challenge.rw_signscreen_k02_ink_texts) (n := 63) (k := 6) (x := "_law_script") (s := K02.sLaw) rfl (by decide) rfl ⟨rfl, by decide, by decide, rfl⟩ (fun w h Y => PySem.W.kIn_of Y) ?F (fun ns O R hl hb hR => ⟨ns, rfl, hR⟩)
  case F =>
    intro w mg fa h KX G hmg
    refine' K02.all_mk ?T ?X hmg ?Kt ?KB ?KA ?KD ?Ky ?Kv ?KG ?KC ?Ks ?Kw ?Kz ?Kx ?Ku ?KF
    case T =>
      refine' K02.txt_mk KX G ?n_len ?n_range ?n_int ?n_bool ?n_str ?n_isinstance ?n_min ?g_bw ?g_sw ?g_hf ?d_bw ?d_sw ?d_hf
      (case n_len => k_is)
      (case n_range => k_is)
      (case n_int => k_is)
      (case n_bool => k_is)
      (case n_str => k_is)
      (case n_isinstance => k_is)
      (case n_min => k_is)
      (case g_bw => k_is)
      (case g_sw => k_is)
      (case g_hf => k_is)
      (case d_bw => exact L2.DS.of (by kernel_rfl) (by decide +kernel) (by kernel_rfl))
      (case d_sw => exact L2.DS.of (by kernel_rfl) (by decide +kernel) (by kernel_rfl))
      (case d_hf => kernel_rfl)
    case X =>
      refine' K02.txtx_mk KX G ?c_se ?c_bp ?c_bs ?c_bi ?c_ba ?c_un ?nv ?xm_bi ?xc_bi ?k_bi_se ?k_bi_bp ?k_bi_bs ?k_bi_bi ?k_bi_ba ?k_bi_un ?k_bi_ve
      (case c_se => k_is)
      (case c_bp => k_is)
      (case c_bs => k_is)
      (case c_bi => k_is)
      (case c_ba => k_is)
      (case c_un => k_is)
      (case nv => k_is)
      (case xm_bi => k_exc)
      (case xc_bi => (refine' K02.xclass_mk ?ga ?gh ?cl ?sp ?tk ?mo ?mb ?hd; (case ga => k_is); (case gh => k_is); (case cl => k_is); (case sp => k_is); (case tk => k_is); (case mo => k_is); (case mb => k_is); (case hd => k_is)))
      (case k_bi_se => kts_exm)
      (case k_bi_bp => kit_is)
      (case k_bi_bs => kit_is)
      (case k_bi_bi => kit_is)
      (case k_bi_ba => kit_is)
      (case k_bi_un => kit_is)
      (case k_bi_ve => kit_is)
    all_goals (refine' K02.fk KX G ?a ?l ?c ?k; (case a => k_is); (case l => k_is); (case c => k_is); (case k => k_is))
