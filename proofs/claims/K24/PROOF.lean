import PyProof.Rows.All
import Wide.All
import OpenK.AllK
import Wide.FinOn
import Lean
import PyProof.EqAt
import PyProof.EqKinds
import PyProof.TupleCall
import KE.KTryMore
import KE.KDictOf
import PyProof.AttrMissHeap
import PyProof.Seq
import PyProof.Rows.Tup
import KE.KDictSum
import PyProof.Rows.SortWalk
import PyProof.EnumStmt
import PyProof.EnumMake
import PyProof.EnumFor
import PyProof.Rows.Range3
import PyProof.ReprRoads
import PyProof.Rows.MinMaxN
import KE.KMinBuiltin
import PyProof.Rows.CallKwBuiltin
import KE.KTabLook
import KE.LcSums
import KE.KIntText
import PyProof.Rows.StrIndexOr
import PyProof.FString5
import PyProof.StrBlockH
import PyProof.SliceStr2
import KE.KDictList
import PyProof.ListRange
import PyProof.StrLawsChain
import PyProof.StrLawsTight
import KE.IntTextLaws
import PyProof.Rows.StrSplitAre
import PyProof.Rows.ReprOcc
import PyProof.Rows.StrFin3
import PyProof.Draws
import PyProof.ZipIter
import PyProof.StrCalls
import PyProof.DictItems
import KE.KPairComp
import PyProof.MeetsSeq2
import PyProof.Rows.FStr
import PyProof.Rows.StrInSeq3
import PyProof.StrLoop
import PyProof.ListNew
import PyProof.CollectWalk
import PyProof.Rows.StrNews2
import PyProof.ExcBaseAll.ValueError
import KE.RegKTryMore
import KE.RegKIsAll
import PySem.Challenge.RW_signscreen_k24_papers
set_option compiler.extract_closed false
set_option Elab.async false
set_option linter.all false
set_option maxRecDepth 100000
set_option maxHeartbeats 4000000
namespace L2
open PySem PySem.Spec PyProof.Rows
noncomputable abbrev Key := Sum Int Str
noncomputable def JS : Key → Value → Bool
  | .inl k, v => Value.isInt k v
  | .inr x, v => Value.isStrOf x v
noncomputable def zdk (w : World) : Key → Int
  | .inl k => hashInt k
  | .inr x => hashStr w x
theorem ye : ∀ {k : Key} {v : Value}, JS k v = true → (∃ i t, k = Sum.inl i ∧ v = Value.int i t) ∨ (∃ x t, k = Sum.inr x ∧ v = Value.str x t)
  | .inl i, v, h => by
    obtain ⟨t, e⟩ := Value.isInt_shape (k := i) (v := v) h
    exact .inl ⟨i, t, rfl, e⟩
  | .inr x, v, h => by
    obtain ⟨t, e⟩ := Value.isStrOf_shape (x := x) (v := v) h
    exact .inr ⟨x, t, rfl, e⟩
theorem zbb (a b : Int) : decide ((Sum.inl a : Key) = Sum.inl b) = (a == b) := by
  by_cases e : a = b
  · subst e; simp
  · have h : ¬ (Sum.inl a : Key) = Sum.inl b := fun q => e (Sum.inl.inj q)
    rw [decide_eq_false h]
    exact (beq_eq_false_iff_ne.mpr e).symm
theorem zbc (a b : Str) : decide ((Sum.inr a : Key) = Sum.inr b) = decide (a = b) := by
  by_cases e : a = b
  · subst e; simp
  · have h : ¬ (Sum.inr a : Key) = Sum.inr b := fun q => e (Sum.inr.inj q)
    rw [decide_eq_false h, decide_eq_false e]
theorem zbd (a : Int) (b : Str) : decide ((Sum.inl a : Key) = Sum.inr b) = false := decide_eq_false (fun q => nomatch q)
theorem zbe (a : Str) (b : Int) : decide ((Sum.inr a : Key) = Sum.inl b) = false := decide_eq_false (fun q => nomatch q)
noncomputable def jW (prog : Program) (w : World) : PySem.KeyKind prog w Key where
  is := JS
  hash := zdk w
  inj := fun v a b ha hb => by
    rcases ye ha with ⟨i, t, rfl, rfl⟩ | ⟨x, t, rfl, rfl⟩
    · rcases ye hb with ⟨j, u, rfl, e⟩ | ⟨y, u, rfl, e⟩
      · injection e with e1 _; rw [e1]
      · exact nomatch e
    · rcases ye hb with ⟨j, u, rfl, e⟩ | ⟨y, u, rfl, e⟩
      · exact nomatch e
      · injection e with e1 _; rw [e1]
  byValue := fun k v h => by
    rcases ye h with ⟨i, t, rfl, rfl⟩ | ⟨x, t, rfl, rfl⟩ <;> rfl
  pyHash := fun hv h => by
    rcases ye hv with ⟨i, t, rfl, rfl⟩ | ⟨x, t, rfl, rfl⟩
    · exact wpAny_pyHash_int h
    · exact wpAny_pyHash_str h
  eqBool := fun hu hv h => by
    rcases ye hu with ⟨i, t, rfl, rfl⟩ | ⟨x, t, rfl, rfl⟩
    · rcases ye hv with ⟨j, u, rfl, rfl⟩ | ⟨y, u, rfl, rfl⟩
      · rw [zbb] at h; exact wpAny_eqBool_int h
      · rw [zbd] at h; exact SeqAt.EqAt.int_str i t y u _ _ _ _ h
    · rcases ye hv with ⟨j, u, rfl, rfl⟩ | ⟨y, u, rfl, rfl⟩
      · rw [zbe] at h; exact SeqAt.EqAt.str_int x t j u _ _ _ _ h
      · rw [zbc] at h; exact wpAny_eqBool_str h
  «strs» := fun k x t v h => by
    rcases ye h with ⟨i, u, rfl, e⟩ | ⟨y, u, rfl, e⟩
    · exact nomatch e
    · injection e with e1 _
      subst e1
      cases v <;> rfl
end L2
namespace L2
open PySem PySem.Spec PyProof.Rows
inductive V where
  | non | bl (b : Bool) | int (i : Int) | str (x : Str) | byt (b : Array UInt8) | flt (b : UInt64) | ref (a : Addr) | ty (n : String)
  deriving DecidableEq
noncomputable def RelV : V → Value → Prop
  | .non, u => u = Value.none
  | .bl b, u => u = Value.bool b
  | .int i, u => ∃ t, u = Value.int i t
  | .str x, u => ∃ t, u = Value.str x t
  | .byt b, u => ∃ t, u = Value.bytes b t
  | .flt b, u => ∃ t, u = Value.float b t
  | .ref a, u => u = Value.ref a
  | .ty n, u => u = Value.type n
noncomputable abbrev Vals : List V → List Value → Prop := Paired RelV
theorem Vals.length {xs : List V} {us : List Value} (r : Vals xs us) : xs.length = us.length := Paired.length r
theorem Vals.get : ∀ {xs : List V} {us : List Value} {i : Nat} {x : V}, Vals xs us → xs[i]? = some x → ∃ u, us[i]? = some u ∧ RelV x u
  | _, _, _, _, .nil, e => by simp at e
  | _, _, 0, _, .cons r _, e => by simp at e; subst e; exact ⟨_, rfl, r⟩
  | _, _, i + 1, x, .cons _ t, e => by
    obtain ⟨u, h1, h2⟩ := Vals.get (i := i) (x := x) t (by simpa using e)
    exact ⟨u, by simpa using h1, h2⟩
theorem Vals.set {x : V} {u : Value} (r : RelV x u) : ∀ {xs : List V} {us : List Value} (i : Nat), Vals xs us → Vals (xs.set i x) (us.set i u)
  | _, _, _, .nil => .nil
  | _, _, 0, .cons _ t => .cons r t
  | _, _, i + 1, .cons q t => .cons q (Vals.set r i t)
theorem Vals.append : ∀ {xs ys : List V} {us ws : List Value}, Vals xs us → Vals ys ws → Vals (xs ++ ys) (us ++ ws)
  | _, _, _, _, .nil, s => s
  | _, _, _, _, .cons r t, s => .cons r (Vals.append t s)
theorem Vals.take : ∀ {xs : List V} {us : List Value} (n : Nat), Vals xs us → Vals (xs.take n) (us.take n)
  | _, _, 0, _ => .nil
  | _, _, _ + 1, .nil => .nil
  | _, _, n + 1, .cons r t => .cons r (Vals.take n t)
theorem Vals.drop : ∀ {xs : List V} {us : List Value} (n : Nat), Vals xs us → Vals (xs.drop n) (us.drop n)
  | _, _, 0, r => r
  | _, _, _ + 1, .nil => .nil
  | _, _, n + 1, .cons _ t => Vals.drop n t
noncomputable def uv : Option V → Option Value → Prop
  | some v, some u => RelV v u
  | none, none => True
  | _, _ => False
noncomputable def KV {κ : Type} : List (κ × V) → List (κ × Value) → Prop := Paired fun (p : κ × V) (q : κ × Value) => p.1 = q.1 ∧ RelV p.2 q.2
noncomputable def kV : Key → V
  | .inl i => .int i
  | .inr x => .str x
inductive HO where
  | lst (xs : List V)
  | tup (xs : List V)
  | dK (kvs : List (Key × V)) | dT (kvs : List (List Key × V))
  | set (S : Int → Bool) (n : Nat)
  | ins (C dx : Addr) (fs : List (Str × V))
  | own (x : Addr)
  | xd (fs : List (Str × V))
  | met (f x : Addr)
  | rng (lo hi : Int)
  | frz (o : Obj) (u : HO)
  | tbl (ps : Array Value)
  | ext (φ : Heap → Prop)
noncomputable abbrev Hp := Addr → Option HO
noncomputable def upd (H : Hp) (a : Addr) (o : HO) : Hp := fun b => if b = a then some o else H b
theorem zg {H : Hp} {a : Addr} {o : HO} : upd H a o a = some o := by unfold upd; rw [if_pos rfl]
theorem zd {H : Hp} {a b : Addr} {o : HO} (h : b ≠ a) : upd H a o b = H b := by unfold upd; rw [if_neg h]
theorem jX {H : Hp} {a : Addr} {o u : HO} : upd (upd H a o) a u = upd H a u := by
  funext b; unfold upd; split <;> rfl
theorem zQ {H : Hp} {a b : Addr} {o : HO} (h : H a = some o) (h' : H b = none) : a ≠ b := by
  intro e; subst e; rw [h] at h'; cases h'
section
variable (P : Program) (w : World)
noncomputable def zR (H : Hp) (h : Heap) (a : Addr) : HO → Prop
  | .lst xs => xs.length ≤ sizeLine ∧ ∃ (its : List Value) (n : Nat), Vals xs its ∧ h.get? a = some { cls := .type "list", data := .seq its.toArray n }
  | .tup xs => xs.length ≤ sizeLine ∧ ∃ its : List Value, Vals xs its ∧ IsTup h a its.toArray
  | .dK kvs => kvs.length ≤ sizeLine ∧ (a == sysModules) = false ∧ ∃ vs, KV kvs vs ∧ h.DictOf (jW P w) a vs
  | .dT kvs => kvs.length ≤ sizeLine ∧ (a == sysModules) = false ∧ ∃ xs : List (List Key × Addr × Value),
      Paired (fun (p : List Key × V) (q : List Key × Addr × Value) => p.1 = q.1 ∧ H q.2.1 = some (.tup (p.1.map kV)) ∧ RelV p.2 q.2.2) kvs xs ∧
      ∃ o es ep, h.get? a = some o ∧ o.ExactDict ∧ o.data = .dict es ep ∧ es.toList = xs.map (entryOfKey (tupleKind (jW P w))) ∧ (xs.map (·.1)).Nodup
  | .set S n => h.SetOf (intKind P w) a S n
  | .ins C dx fs => H dx = some (.own a) ∧ fs.length ≤ 1000 ∧ dx ≠ a ∧ h.get? a = some (PySem.W.instObj C dx) ∧
      ∃ mA, h.Ns1 dx mA ∧ (∀ f, uv (fs.lookup f) (mA f)) ∧ PySem.Within mA (fs.map (·.1))
  | .own _ => ∃ o, h.get? a = some o
  | .xd fs => ∃ mA, h.Ns1 a mA ∧ ∀ f, uv (fs.lookup f) (mA f)
  | .rng lo hi => ∃ t u v, h.get? a = some { cls := .type "range", data := .fields #[.int lo t, .int hi u, .int 1 v] }
  | .frz o u => h.get? a = some o ∧ zR H h a u
  | .tbl ps => h.get? a = some { cls := .none, data := .fields ps }
  | .met f x => h.get? a = some (PySem.W.methodObj (.ref f) (.ref x))
  | .ext φ => φ h ∧ (∃ o, h.get? a = some o) ∧ ∀ h1 h2 : Heap, φ h1 → (∀ o, h1.get? a = some o → h2.get? a = some o) → φ h2
noncomputable def HOk (H : Hp) (h : Heap) : Prop := ∀ a o, H a = some o → zR P w H h a o
end
section
variable {P : Program} {w : World} {H H' : Hp} {h h' : Heap} {a : Addr} {o : HO}
theorem zR.lt (x : zR P w H h a o) : a < h.objs.size := by
  cases o with
  | lst xs => obtain ⟨_, _, _, _, e⟩ := x; exact Heap.lt_size e
  | tup xs => obtain ⟨_, _, _, p⟩ := x; exact p.lt
  | dK kvs => obtain ⟨_, _, _, _, o, _, _, e, _⟩ := x; exact Heap.lt_size e
  | dT kvs => obtain ⟨_, _, _, _, o, _, _, e, _⟩ := x; exact Heap.lt_size e
  | set S n => obtain ⟨o, _, _, _, e, _⟩ := x; exact Heap.lt_size e
  | ins C dx fs => obtain ⟨_, _, _, e, _⟩ := x; exact Heap.lt_size e
  | own y => obtain ⟨_, e⟩ := x; exact Heap.lt_size e
  | xd fs => obtain ⟨_, ⟨_, _, _, e, _⟩, _⟩ := x; exact Heap.lt_size e
  | rng lo hi => obtain ⟨_, _, _, e⟩ := x; exact Heap.lt_size e
  | frz ob u => obtain ⟨e, _⟩ := x; exact Heap.lt_size e
  | tbl ps => exact Heap.lt_size (show h.get? a = some _ from x)
  | met f y => exact Heap.lt_size (show h.get? a = some _ from x)
  | ext φ => obtain ⟨_, ⟨_, e⟩, _⟩ := x; exact Heap.lt_size e
theorem Paired.mapP {α β : Type} {F G : α → β → Prop} : ∀ {l₁ : List α} {l₂ : List β}, Paired F l₁ l₂ → (∀ a b, F a b → G a b) → Paired G l₁ l₂
  | _, _, .nil, _ => .nil
  | _, _, .cons r t, f => .cons (f _ _ r) (Paired.mapP t f)
theorem Paired.imp' {α β : Type} {F G : α → β → Prop} (f : ∀ a b, F a b → G a b) {l₁ : List α} {l₂ : List β} (r : Paired F l₁ l₂) : Paired G l₁ l₂ := Paired.mapP r f
theorem zR.stay (x : zR P w H h a o) (k : ∀ b u, (b = a ∨ H b = some (.own a)) → h.get? b = some u → h'.get? b = some u)
    (ho : ∀ b, H b = some (.own a) → H' b = some (.own a)) (ht : ∀ b xs, H b = some (.tup xs) → H' b = some (.tup xs)) : zR P w H' h' a o := by
  induction o with
  | lst xs => obtain ⟨z, its, n, r, e⟩ := x; exact ⟨z, its, n, r, k _ _ (.inl rfl) e⟩
  | tup xs => obtain ⟨z, its, r, ob, e, c⟩ := x; exact ⟨z, its, r, ob, k _ _ (.inl rfl) e, c⟩
  | dK kvs => obtain ⟨z, y, vs, r, ob, es, ep, e, c⟩ := x; exact ⟨z, y, vs, r, ob, es, ep, k _ _ (.inl rfl) e, c⟩
  | dT kvs =>
    obtain ⟨z, y, xs, r, ob, es, ep, e, c⟩ := x
    exact ⟨z, y, xs, Paired.mapP r fun p q z => ⟨z.1, ht _ _ z.2.1, z.2.2⟩, ob, es, ep, k _ _ (.inl rfl) e, c⟩
  | set S n => obtain ⟨ob, es, ep, t, e, c⟩ := x; exact ⟨ob, es, ep, t, k _ _ (.inl rfl) e, c⟩
  | ins C dx fs =>
    obtain ⟨d, z, ne, e, mA, ⟨od, es, ep, e2, c⟩, r⟩ := x
    exact ⟨ho _ d, z, ne, k _ _ (.inl rfl) e, mA, ⟨od, es, ep, k _ _ (.inr d) e2, c⟩, r⟩
  | own y => obtain ⟨ob, e⟩ := x; exact ⟨ob, k _ _ (.inl rfl) e⟩
  | xd fs => obtain ⟨mA, ⟨od, es, ep, e, c⟩, r⟩ := x; exact ⟨mA, ⟨od, es, ep, k _ _ (.inl rfl) e, c⟩, r⟩
  | rng lo hi => obtain ⟨t, u, v, e⟩ := x; exact ⟨t, u, v, k _ _ (.inl rfl) e⟩
  | frz ob u ih => obtain ⟨e, q⟩ := x; exact ⟨k _ _ (.inl rfl) e, ih q⟩
  | tbl ps =>
    have e : h.get? a = some { cls := .none, data := .fields ps } := x
    show h'.get? a = some { cls := .none, data := .fields ps }
    exact k a _ (.inl rfl) e
  | met f y =>
    have e : h.get? a = some (PySem.W.methodObj (.ref f) (.ref y)) := x
    show h'.get? a = some (PySem.W.methodObj (.ref f) (.ref y))
    exact k a _ (.inl rfl) e
  | ext φ => obtain ⟨p, ⟨o, e⟩, st⟩ := x; exact ⟨st _ _ p fun o q => k _ _ (.inl rfl) q, ⟨o, k _ _ (.inl rfl) e⟩, st⟩
theorem HOk.lt (x : HOk P w H h) (e : H a = some o) : a < h.objs.size := (x a o e).lt
theorem HOk.fresh (x : HOk P w H h) (e : h.objs.size ≤ a) : H a = none := by
  cases q : H a with
  | none => rfl
  | some u => exact absurd (Nat.lt_of_lt_of_le (x.lt q) e) (Nat.lt_irrefl _)
theorem HOk.kept (x : HOk P w H h) (k : ∀ b u, h.get? b = some u → h'.get? b = some u) : HOk P w H h' := fun a o e =>
  (x a o e).stay (fun b u _ q => k b u q) (fun _ q => q) fun _ _ q => q
theorem HOk.laid (x : HOk P w H h) (k : ∀ b u, h.get? b = some u → h'.get? b = some u) (hp : h.objs.size ≤ a) (new : zR P w (upd H a o) h' a o) : HOk P w (upd H a o) h' := fun b u e => by
  have hn := x.fresh hp
  by_cases hb : b = a
  · subst hb; rw [zg] at e; cases e; exact new
  · rw [zd hb] at e
    exact (x b u e).stay (fun c v _ q => k c v q) (fun c q => by rw [zd (zQ q hn)]; exact q) fun c xs q => by rw [zd (zQ q hn)]; exact q
end
noncomputable def Rd (H : Hp) (a : Addr) (u : HO) : Prop := H a = some u ∨ ∃ o, H a = some (.frz o u)
theorem Rd.of {H : Hp} {a : Addr} {u : HO} (h : H a = some u) : Rd H a u := .inl h
theorem Rd.ok {P : Program} {w : World} {H : Hp} {h : Heap} {a : Addr} {u : HO} (r : Rd H a u) (x : HOk P w H h) : zR P w H h a u := by
  rcases r with r | ⟨o, r⟩
  · exact x a u r
  · obtain ⟨_, q⟩ := x a _ r
    exact q
noncomputable def Mut : Option HO → Prop
  | some (.lst _) => True
  | some (.dK _) => True
  | some (.dT _) => True
  | some (.set _ _) => True
  | some (.ins _ _ _) => True
  | some (.ext _) => True
  | _ => False
section
variable {P : Program} {w : World} {H : Hp} {h h' : Heap} {x e : Addr} {o' : HO}
theorem HOk.write (ok : HOk P w H h) (mu : Mut (H x)) (he : e = x ∨ H e = some (.own x)) (k : ∀ b u, b ≠ e → h.get? b = some u → h'.get? b = some u) (heo : ∃ u, h'.get? e = some u)
    (new : zR P w (upd H x o') h' x o') : HOk P w (upd H x o') h' := fun b u q => by
  have nown : ∀ c y, H c = some (.own y) → c ≠ x := fun c y r z => by subst z; rw [r] at mu; exact mu
  have ntup : ∀ c xs, H c = some (.tup xs) → c ≠ x := fun c xs r z => by subst z; rw [r] at mu; exact mu
  by_cases hb : b = x
  · subst hb; rw [zg] at q; cases q; exact new
  · rw [zd hb] at q
    by_cases hbe : b = e
    · have q' : H b = some (.own x) := by
        rcases he with z | z
        · exact absurd (hbe.trans z) hb
        · rw [hbe]; exact z
      rw [q] at q'; cases q'
      obtain ⟨v, hv⟩ := heo
      exact ⟨v, by rw [hbe]; exact hv⟩
    · refine (ok b u q).stay (fun c v hc r => k c v ?_ r) (fun c r => by rw [zd (nown c b r)]; exact r) fun c xs r => by rw [zd (ntup c xs r)]; exact r
      rcases hc with rfl | hc
      · exact hbe
      · rintro rfl
        rcases he with z | z
        · exact nown c b hc z
        · rw [hc] at z; cases z; exact hb rfl
end
structure Un (fs ex : List Addr) (H H' : Hp) (h h' : Heap) : Prop where
  keep : ∀ b o, h.get? b = some o → H b = none → b ∉ fs → b ∉ ex → h'.get? b = some o
  slot : ∀ b o, h.get? b = some o → H b = none → b ∈ fs → b ∉ ex → ∃ sl, h'.get? b = some { o with slots := sl }
  free : ∀ b o, h.get? b = some o → H b = none → b ∉ ex → H' b = none
  there : ∀ b o, h.get? b = some o → b ∉ ex → ∃ o', h'.get? b = some o'
  tups : ∀ b xs, H b = some (.tup xs) → H' b = some (.tup xs)
  frzs : ∀ b o u, H b = some (.frz o u) → H' b = some (.frz o u)
  tbls : ∀ b ps, H b = some (.tbl ps) → ∃ more, H' b = some (.tbl (ps ++ more))
section
variable {fs fs' ex ex' : List Addr} {H H1 H2 : Hp} {h h1 h2 h' : Heap} {a x e : Addr} {o : HO}
theorem Un.any (u : Un fs ex H H1 h h1) {b : Addr} {ob : Obj} (q : h.get? b = some ob) (n : H b = none) (hx : b ∉ ex) : ∃ sl, h1.get? b = some { ob with slots := sl } := by
  by_cases hb : b ∈ fs
  · exact u.slot b ob q n hb hx
  · exact ⟨ob.slots, u.keep b ob q n hb hx⟩
theorem Un.trans (a : Un fs ex H H1 h h1) (b : Un fs ex H1 H2 h1 h2) : Un fs ex H H2 h h2 where
  keep := fun c ob q n hc hx => b.keep c ob (a.keep c ob q n hc hx) (a.free c ob q n hx) hc hx
  slot := fun c ob q n hc hx => by
    obtain ⟨sl, e1⟩ := a.slot c ob q n hc hx
    obtain ⟨sl', e2⟩ := b.slot c _ e1 (a.free c ob q n hx) hc hx
    exact ⟨sl', e2⟩
  free := fun c ob q n hx => by
    obtain ⟨o', e1⟩ := a.there c ob q hx
    exact b.free c o' e1 (a.free c ob q n hx) hx
  there := fun c ob q hx => by
    obtain ⟨o', e1⟩ := a.there c ob q hx
    exact b.there c o' e1 hx
  tups := fun c xs q => b.tups c xs (a.tups c xs q)
  frzs := fun c ob xs q => b.frzs c ob xs (a.frzs c ob xs q)
  tbls := fun c ps q => by
    obtain ⟨m1, e1⟩ := a.tbls c ps q
    obtain ⟨m2, e2⟩ := b.tbls c _ e1
    exact ⟨m1 ++ m2, by rw [e2, Array.append_assoc]⟩
theorem Un.kept (k : ∀ b u, h.get? b = some u → h'.get? b = some u) : Un fs ex H H h h' :=
  ⟨fun b ob q _ _ _ => k b ob q, fun b ob q _ _ _ => ⟨ob.slots, k b ob q⟩, fun _ _ _ n _ => n, fun b ob q _ => ⟨ob, k b ob q⟩, fun _ _ q => q, fun _ _ _ q => q, fun _ ps q => ⟨#[], by rw [q]; simp⟩⟩
theorem Un.refl : Un fs ex H H h h := Un.kept fun _ _ q => q
theorem Un.laid (k : ∀ b u, h.get? b = some u → h'.get? b = some u) (hp : h.objs.size ≤ a) (hn : H a = none) : Un fs ex H (upd H a o) h h' where
  keep := fun b u q _ _ _ => k b u q
  slot := fun b u q _ _ _ => ⟨u.slots, k b u q⟩
  free := fun b u q n _ => by rw [zd (Nat.ne_of_lt (Nat.lt_of_lt_of_le (Heap.lt_size q) hp))]; exact n
  there := fun b u q _ => ⟨u, k b u q⟩
  tups := fun b xs q => by rw [zd (zQ q hn)]; exact q
  frzs := fun b u xs q => by rw [zd (zQ q hn)]; exact q
  tbls := fun b ps q => ⟨#[], by rw [zd (zQ q hn), q]; simp⟩
theorem Un.write (mu : Mut (H x)) (he : e = x ∨ H e = some (.own x)) (k : ∀ b u, b ≠ e → h.get? b = some u → h'.get? b = some u) (heo : ∃ u, h'.get? e = some u) : Un fs ex H (upd H x o) h h' := by
  have hx : ∀ b, H b = none → b ≠ x := fun b n z => by subst z; rw [n] at mu; exact mu
  have hb : ∀ b, H b = none → b ≠ e := fun b n z => by
    subst z
    rcases he with r | r
    · exact hx b n r
    · rw [n] at r; cases r
  have hm : ∀ b u, H b = some u → ¬ Mut (some u) → b ≠ x := fun b u q nm z => by subst z; rw [q] at mu; exact nm mu
  refine ⟨fun b u q n _ _ => k b u (hb b n) q, fun b u q n _ _ => ⟨u.slots, k b u (hb b n) q⟩, fun b u q n _ => by rw [zd (hx b n)]; exact n, fun b u q _ => ?_,
    fun b xs q => by rw [zd (hm b _ q fun z => z)]; exact q, fun b u xs q => by rw [zd (hm b _ q fun z => z)]; exact q, fun b ps q => ⟨#[], by rw [zd (hm b _ q fun z => z), q]; simp⟩⟩
  by_cases hbe : b = e
  · subst hbe; exact heo
  · exact ⟨u, k b u hbe q⟩
theorem Un.mono (u : Un fs ex H H1 h h1) (hs : ∀ b ∈ fs, b ∈ fs') (hx : ∀ b ∈ ex, b ∈ ex') : Un fs' ex' H H1 h h1 :=
  ⟨fun b ob q n hb he => u.keep b ob q n (fun z => hb (hs b z)) fun z => he (hx b z), fun _ _ q n _ he => u.any q n fun z => he (hx _ z), fun b ob q n he => u.free b ob q n fun z => he (hx b z), fun b ob q he => u.there b ob q fun z => he (hx b z), u.tups, u.frzs, u.tbls⟩
end
noncomputable def trk (h : Heap) (H : Hp) : List Addr := (List.range h.objs.size).filter fun a => (H a).isSome
noncomputable def uw (h : Heap) (H : Hp) : Heap := PySem.W.hideAll h (trk h H)
theorem V4 (h : Heap) (H : Hp) : (uw h H).objs.size = h.objs.size := PySem.W.hideAll_size _ _
theorem Qx {h : Heap} {H : Hp} {b : Addr} {o : Obj} (e : h.get? b = some o) (n : H b = none) : (uw h H).get? b = some o :=
  PySem.W.hideAll_get _ e fun hm => by
    have q : (H b).isSome = true := (List.mem_filter.mp hm).2
    rw [n] at q; simp at q
theorem KP {h : Heap} {H : Hp} {b : Addr} {o : Obj} (e : (uw h H).get? b = some o) : h.get? b = some o ∧ H b = none := by
  have e' : h.get? b = some o := PySem.W.of_hideAll (trk h H) e
  refine ⟨e', ?_⟩
  cases q : H b with
  | none => rfl
  | some x =>
    have hm : b ∈ trk h H := List.mem_filter.mpr ⟨List.mem_range.mpr (Heap.lt_size e'), by simp [q]⟩
    have z : (uw h H).get? b = none := PySem.W.hideAll_none (trk h H) hm
    rw [z] at e; cases e
noncomputable def KQ (g h : Heap) (L : Addr) : List (Addr × Obj) := (List.range h.objs.size).filterMap fun a => if a = L ∨ (g.get? a).isSome = true then none else (h.get? a).map fun o => (a, o)
noncomputable def yh (g h : Heap) (L d : Addr) : List (Addr × Obj) := (KQ g h L).filter fun p => decide (p.1 ≠ d)
end L2
namespace L2
open PySem PySem.Spec PyProof.Rows
structure Mod (K : PySem.W.Frag) (mg : Str → Option Value) (base : Heap) : Prop where
  kin : K.In base
  glob : base.Ns mainGlobals mg
  blt : ∃ mb, base.Ns builtinsNs mb ∧ ∀ x : Str, x ≠ "__name__" → mb x = bootBuiltins x
  nolimit : base.NoLimit
structure Cx where
  prog : Program
  w : World
  K : PySem.W.Frag
  mg : Str → Option Value
  base : Heap
  A : Around
  N : List Str
  s₀ : Shared
  H₀ : Hp
  env : Env
  outer : List Env
  stack : List Env
  ex : List Addr
  fn : Str → Bool
  calm : Bool
  pn : List (Addr × Obj)
  xe : Value → Shared → Prop
noncomputable def frs (l : List Env) : List Addr := l.filterMap (·.frame)
noncomputable abbrev Cx.fs (X : Cx) : List Addr := frs X.outer
noncomputable def Vis (sc : Scope) (x : Str) : Prop := sc.names.lookup x = some .local ∨ sc.names.lookup x = some .cell ∨ sc.names.lookup x = some .free
noncomputable def Loc (sc : Scope) (x : Str) : Prop := sc.names.lookup x = some .local ∨ sc.names.lookup x = some .cell
noncomputable def Look (env : Env) (h : Heap) (m : Str → Option Value) (x : Str) (u : Value) : Prop :=
  (env.kindOf x = some .local ∧ m x = some u) ∨ ((env.kindOf x = some .cell ∨ env.kindOf x = some .free) ∧ ∃ c, env.cells.lookup x = some c ∧ h.IsCell c (some u))
structure Cx.Ok (X : Cx) : Prop where
  mod : Mod X.K X.mg X.base
  kind : X.env.scope.kind = .function
  glob : X.env.globals = mainGlobals
  blt : X.env.builtins = builtinsNs
  above : X.s₀.heap.objs.size ≤ X.env.locals
  inj : ∀ x y c, X.env.cells.lookup x = some c → X.env.cells.lookup y = some c → x = y
  has : ∀ x, (X.env.kindOf x = some .cell ∨ X.env.kindOf x = some .free) → ∃ c, X.env.cells.lookup x = some c
  cab : ∀ x c, X.fn x = true → X.env.cells.lookup x = some c → X.s₀.heap.objs.size ≤ c
  hd : X.calm = true → X.A.handled = none
  frames : X.A.frames = some X.stack
  stk : X.stack = X.outer ∨ (X.stack = X.env :: X.outer ∧ X.env.frame = some X.env.locals)
  exf : ∀ b ∈ X.ex, b ≠ X.env.locals ∧ ∀ x c, X.env.cells.lookup x = some c → c ≠ b
  bs : ∀ b o, X.base.get? b = some o → X.s₀.heap.get? b = some o ∧ X.H₀ b = none
  bsz : X.base.objs.size ≤ X.s₀.heap.objs.size
  noex : ∀ b o, X.base.get? b = some o → b ∉ X.ex
  exfs : ∀ b ∈ X.ex, b ∉ X.fs
  funs : X.s₀.heap.FunFrames X.base X.outer
  frf : ∀ b ∈ X.fs, X.H₀ b = none
structure Inv (X : Cx) (pins : List (Addr × Obj)) (σ : List (Option V)) (H : Hp) (s : Shared) : Prop where
  ok : X.Ok
  os : s.os = X.s₀.os
  bare : AllBare s.gens
  base : Un X.fs X.ex X.H₀ H X.s₀.heap s.heap
  loc : ∃ m, s.heap.Ns X.env.locals m ∧ ∀ (i : Nat) (x : Str) (v : V), X.N[i]? = some x → σ[i]? = some (some v) → Vis X.env.scope x → ∃ u, RelV v u ∧ Look X.env s.heap m x u
  cell : ∀ x c, X.env.cells.lookup x = some c → ∃ v, s.heap.IsCell c v
  free : H X.env.locals = none
  freeC : ∀ x c, X.env.cells.lookup x = some c → H c = none
  pin : ∀ p ∈ X.pn ++ pins, s.heap.get? p.1 = some p.2 ∧ H p.1 = none ∧ p.1 ≠ X.env.locals ∧ p.1 ∉ X.fs ∧ ∀ v, p.2.data ≠ .cell v
  hok : HOk X.prog X.w H s.heap
  len : σ.length = X.N.length
section
variable {X : Cx} {pins : List (Addr × Obj)} {σ : List (Option V)} {H H' : Hp} {s : Shared} {h' : Heap}
theorem Cx.Ok.nofr (ok : X.Ok) {b : Addr} {o : Obj} (e : X.base.get? b = some o) : b ∉ X.fs := fun hb => by
  have := (ok.funs.mem hb).1
  rw [e] at this; cases this
theorem Inv.bs (I : Inv X pins σ H s) : ∀ b o, X.base.get? b = some o → s.heap.get? b = some o ∧ H b = none := fun b o e =>
  ⟨I.base.keep b o (I.ok.bs b o e).1 (I.ok.bs b o e).2 (I.ok.nofr e) (I.ok.noex b o e), I.base.free b o (I.ok.bs b o e).1 (I.ok.bs b o e).2 (I.ok.noex b o e)⟩
theorem Inv.bk (I : Inv X pins σ H s) : ∀ b o, X.base.get? b = some o → s.heap.get? b = some o := fun b o e => (I.bs b o e).1
theorem Inv.mod (I : Inv X pins σ H s) : Mod X.K X.mg X.base := I.ok.mod
theorem Inv.kIn (I : Inv X pins σ H s) : X.K.In s.heap := I.ok.mod.kin.keeps I.bk
theorem Inv.nolimit (I : Inv X pins σ H s) : s.heap.NoLimit := I.ok.mod.nolimit.keeps I.bk
theorem Inv.fr (I : Inv X pins σ H s) : ∃ m, Fr X.base X.env.locals s.heap m :=
  let ⟨m, hn, _⟩ := I.loc
  ⟨m, hn, I.bk, Nat.le_trans I.ok.bsz I.ok.above⟩
theorem Inv.lt (I : Inv X pins σ H s) : X.env.locals < s.heap.objs.size := let ⟨_, hn, _⟩ := I.loc; hn.lt
theorem Inv.sz (I : Inv X pins σ H s) : X.s₀.heap.objs.size ≤ s.heap.objs.size := Nat.le_trans I.ok.above (Nat.le_of_lt I.lt)
theorem Inv.nofs (I : Inv X pins σ H s) {a : Addr} (h : s.heap.objs.size ≤ a) : a ∉ X.fs := fun hb => by
  obtain ⟨_, o, ho, _⟩ := I.ok.funs.mem hb
  exact absurd (Nat.lt_of_lt_of_le (Heap.lt_size ho) (Nat.le_trans I.sz h)) (Nat.lt_irrefl _)
theorem Inv.cne (I : Inv X pins σ H s) : ∀ x c, X.env.cells.lookup x = some c → c ≠ X.env.locals := fun x c e z => by
  obtain ⟨v, o, ho, hd⟩ := I.cell x c e
  obtain ⟨m, ⟨o', es, ep, ho', hd', _⟩, _⟩ := I.loc
  rw [z, ho'] at ho; cases ho; rw [hd'] at hd; cases hd
theorem Inv.funs (I : Inv X pins σ H s) : s.heap.FunFrames X.base X.outer := by
  have all : ∀ (l : List Env), (∀ b ∈ frs l, b ∈ X.fs) → X.s₀.heap.FunFrames X.base l → s.heap.FunFrames X.base l := by
    intro l
    induction l with
    | nil => intro _ _; trivial
    | cons env r ih =>
      intro hs hl
      obtain ⟨hk, ⟨L, o, hf, hn, ho, hd⟩, hr⟩ := hl
      have hL : L ∈ X.fs := hs L (by unfold frs; rw [List.filterMap_cons, hf]; exact List.mem_cons_self)
      obtain ⟨sl, e⟩ := I.base.slot L o ho (I.ok.frf L hL) hL fun z => I.ok.exfs L z hL
      exact ⟨hk, ⟨L, _, hf, hn, e, hd⟩, ih (fun b hb => hs b (by unfold frs; rw [List.filterMap_cons, hf]; exact List.mem_cons_of_mem _ hb)) hr⟩
  exact all X.outer (fun _ hb => hb) I.ok.funs
theorem Inv.stack (I : Inv X pins σ H s) : s.heap.FunFrames X.base X.stack := by
  rcases I.ok.stk with e | ⟨e, hf⟩
  · rw [e]; exact I.funs
  · rw [e]
    obtain ⟨m, hn, _⟩ := I.loc
    refine .cons (by rw [I.ok.kind]; decide) hf hn ?_ I.funs
    exact Heap.get?_none_of_le (Nat.le_trans I.ok.bsz I.ok.above)
theorem Inv.stkSub (I : Inv X pins σ H s) : ∀ b ∈ frs X.stack, b ∈ X.env.locals :: X.fs := fun b hb => by
  rcases I.ok.stk with e | ⟨e, hf⟩
  · rw [e] at hb; exact List.mem_cons_of_mem _ hb
  · rw [e] at hb
    unfold frs at hb
    rw [List.filterMap_cons, hf] at hb
    exact hb
theorem Inv.stkFree (I : Inv X pins σ H s) : ∀ b ∈ frs X.stack, H b = none := fun b hb => by
  rcases List.mem_cons.mp (I.stkSub b hb) with e | hb
  · rw [e]; exact I.free
  · obtain ⟨_, o, ho, _⟩ := I.ok.funs.mem hb
    exact I.base.free b o ho (I.ok.frf b hb) fun z => I.ok.exfs b z hb
theorem Inv.step {g' : Array GenState} {t' : Nat} {d' : Drawn} {ch : List Addr} (I : Inv X pins σ H s)
    (hch : ∀ b ∈ ch, (b ∈ X.ex ∨ X.s₀.heap.objs.size ≤ b) ∧ b ≠ X.env.locals ∧ (∀ x c, X.env.cells.lookup x = some c → c ≠ b) ∧ ∀ p ∈ X.pn ++ pins, p.1 ≠ b)
    (keep : ∀ b o, b ≠ X.env.locals → b ∉ X.fs → b ∉ ch → s.heap.get? b = some o → H b = none → h'.get? b = some o)
    (slot : ∀ b o, b ≠ X.env.locals → b ∈ X.fs → b ∉ ch → s.heap.get? b = some o → H b = none → ∃ sl, h'.get? b = some { o with slots := sl }) (free : ∀ b o, b ∉ ch → s.heap.get? b = some o → H b = none → H' b = none)
    (there : ∀ b o, b ∉ ch → s.heap.get? b = some o → ∃ o', h'.get? b = some o')
    (tups : ∀ b xs, H b = some (.tup xs) → H' b = some (.tup xs)) (frzs : ∀ b o u, H b = some (.frz o u) → H' b = some (.frz o u)) (tbls : ∀ b ps, H b = some (.tbl ps) → ∃ more, H' b = some (.tbl (ps ++ more)))
    (ns : ∀ m, s.heap.Ns X.env.locals m → h'.Ns X.env.locals m) (hok : HOk X.prog X.w H' h') (hg : AllBare g') :
    Inv X pins σ H' { s with heap := h', gens := g', drawn := d', toks := t' } := by
  have neL : ∀ b o, X.s₀.heap.get? b = some o → b ≠ X.env.locals := fun b o e => Nat.ne_of_lt (Nat.lt_of_lt_of_le (Heap.lt_size e) I.ok.above)
  have neC : ∀ b o, X.s₀.heap.get? b = some o → b ∉ X.ex → b ∉ ch := fun b o e hx hb => by
    rcases (hch b hb).1 with z | z
    · exact hx z
    · exact absurd (Nat.lt_of_lt_of_le (Heap.lt_size e) z) (Nat.lt_irrefl _)
  have cellK : ∀ x c, X.env.cells.lookup x = some c → ∀ v, s.heap.IsCell c v → h'.IsCell c v := fun x c e v ⟨o, ho, hd⟩ => by
    have nch : c ∉ ch := fun z => (hch c z).2.2.1 x c e rfl
    by_cases hc : c ∈ X.fs
    · obtain ⟨sl, q⟩ := slot c o (I.cne x c e) hc nch ho (I.freeC x c e)
      exact ⟨_, q, hd⟩
    · exact ⟨o, keep c o (I.cne x c e) hc nch ho (I.freeC x c e), hd⟩
  refine ⟨I.ok, I.os, hg, ⟨fun b o e n hb hx => ?_, fun b o e n hb hx => ?_, fun b o e n hx => ?_, fun b o e hx => ?_, fun b xs e => tups b xs (I.base.tups b xs e), fun b o xs e => frzs b o xs (I.base.frzs b o xs e), fun b ps e => ?_⟩, ?_, fun x c e => ?_, ?_, fun x c e => ?_, fun p hp => ?_, hok, I.len⟩
  · exact keep b o (neL b o e) hb (neC b o e hx) (I.base.keep b o e n hb hx) (I.base.free b o e n hx)
  · obtain ⟨sl, e1⟩ := I.base.slot b o e n hb hx
    obtain ⟨sl', e2⟩ := slot b _ (neL b o e) hb (neC b o e hx) e1 (I.base.free b o e n hx)
    exact ⟨sl', e2⟩
  · obtain ⟨o', e1⟩ := I.base.there b o e hx
    exact free b o' (neC b o e hx) e1 (I.base.free b o e n hx)
  · obtain ⟨o', e1⟩ := I.base.there b o e hx
    exact there b o' (neC b o e hx) e1
  · obtain ⟨m1, e1⟩ := I.base.tbls b ps e
    obtain ⟨m2, e2⟩ := tbls b _ e1
    exact ⟨m1 ++ m2, by rw [e2, Array.append_assoc]⟩
  · obtain ⟨m, hn, hl⟩ := I.loc
    refine ⟨m, ns m hn, fun i x v e1 e2 e3 => ?_⟩
    obtain ⟨u, r, l⟩ := hl i x v e1 e2 e3
    refine ⟨u, r, ?_⟩
    rcases l with l | ⟨k, c, e, z⟩
    · exact .inl l
    · exact .inr ⟨k, c, e, cellK x c e _ z⟩
  · obtain ⟨v, z⟩ := I.cell x c e
    exact ⟨v, cellK x c e v z⟩
  · obtain ⟨m, ⟨o, _, _, ho, _⟩, _⟩ := I.loc
    exact free _ o (fun z => (hch _ z).2.1 rfl) ho I.free
  · obtain ⟨v, o, ho, hd⟩ := I.cell x c e
    exact free c o (fun z => (hch c z).2.2.1 x c e rfl) ho (I.freeC x c e)
  · obtain ⟨e, n, ne, nf, d⟩ := I.pin p hp
    have nch : p.1 ∉ ch := fun z => (hch p.1 z).2.2.2 p hp rfl
    exact ⟨keep p.1 p.2 ne nf nch e n, free p.1 p.2 nch e n, ne, nf, d⟩
theorem Inv.un {t' : Nat} (I : Inv X pins σ H s) (u : Un X.fs [] H H' s.heap h') (hok : HOk X.prog X.w H' h') : Inv X pins σ H' { s with heap := h', toks := t' } := by
  obtain ⟨m, ⟨o, es, ep, ho, r⟩, _⟩ := id I.loc
  obtain ⟨sl, hL⟩ := u.any ho I.free (by simp)
  exact I.step (g' := s.gens) (d' := s.drawn) (ch := []) (fun _ z => nomatch z) (fun b o _ hb _ e n => u.keep b o e n hb (by simp)) (fun b o _ hb _ e n => u.slot b o e n hb (by simp)) (fun b o _ e n => u.free b o e n (by simp)) (fun b o _ e => u.there b o e (by simp)) u.tups u.frzs u.tbls (fun m' hm => by
    obtain ⟨o', es', ep', ho', r'⟩ := hm
    rw [ho] at ho'; cases ho'
    exact ⟨_, es', ep', hL, r'⟩) hok I.bare
theorem Inv.call {g' : Array GenState} {t' : Nat} {d' : Drawn} {ch : List Addr} (I : Inv X pins σ H s) (u : Un (frs X.stack) ch H H' s.heap h') (hok : HOk X.prog X.w H' h') (hg : AllBare g')
    (hch : ∀ b ∈ ch, (b ∈ X.ex ∨ X.s₀.heap.objs.size ≤ b) ∧ b ≠ X.env.locals ∧ (∀ x c, X.env.cells.lookup x = some c → c ≠ b) ∧ ∀ p ∈ X.pn ++ pins, p.1 ≠ b) :
    Inv X pins σ H' { s with heap := h', gens := g', drawn := d', toks := t' } := by
  obtain ⟨m, ⟨o, es, ep, ho, r⟩, _⟩ := id I.loc
  obtain ⟨sl, hL⟩ := u.any ho I.free fun z => (hch _ z).2.1 rfl
  exact I.step (ch := ch) hch (fun b o hL hb hc e n => u.keep b o e n (fun z => (List.mem_cons.mp (I.stkSub b z)).elim hL hb) hc) (fun b o _ _ hc e n => u.any e n hc) (fun b o hc e n => u.free b o e n hc) (fun b o hc e => u.there b o e hc) u.tups u.frzs u.tbls (fun m' hm => by
    obtain ⟨o', es', ep', ho', r'⟩ := hm
    rw [ho] at ho'; cases ho'
    exact ⟨_, es', ep', hL, r'⟩) hok hg
theorem Inv.turned {t' : Nat} {it : Addr} (I : Inv X pins σ H s) (k : ∀ b o, b ≠ it → s.heap.get? b = some o → h'.get? b = some o) (hn : H it = none) (hL : it ≠ X.env.locals)
    (h1 : it ∈ X.ex ∨ X.s₀.heap.objs.size ≤ it) (h2 : ∀ x c, X.env.cells.lookup x = some c → c ≠ it) (h3 : ∀ p ∈ X.pn ++ pins, p.1 ≠ it) : Inv X pins σ H { s with heap := h', toks := t' } := by
  have nit : ∀ b u, H b = some u → b ≠ it := fun b u e z => by rw [z, hn] at e; cases e
  refine I.step (g' := s.gens) (d' := s.drawn) (ch := [it]) (fun b hb => ?_) (fun b o _ _ hc e _ => k b o (fun z => hc (by simp [z])) e) (fun b o _ _ hc e _ => ⟨o.slots, k b o (fun z => hc (by simp [z])) e⟩) (fun _ _ _ _ n => n)
    (fun b o hc e => ⟨o, k b o (fun z => hc (by simp [z])) e⟩) (fun _ _ e => e) (fun _ _ _ e => e) (fun b ps e => ⟨#[], by rw [e]; simp⟩) (fun m hm => ?_) (fun b u e => ?_) I.bare
  · have e : b = it := by simpa using hb
    subst e
    exact ⟨h1, hL, h2, h3⟩
  · obtain ⟨o, es, ep, ho, r⟩ := hm
    exact ⟨o, es, ep, k _ o (Ne.symm hL) ho, r⟩
  · refine (I.hok b u e).stay (fun c v hc q => k c v ?_ q) (fun _ q => q) fun _ _ q => q
    rcases hc with z | z
    · rw [z]; exact nit b u e
    · exact nit c _ z
theorem Inv.tok (I : Inv X pins σ H s) (t : Nat) : Inv X pins σ H { s with toks := t } := I.un (h' := s.heap) (t' := t) Un.refl I.hok
theorem Inv.kept {t' : Nat} (I : Inv X pins σ H s) (k : ∀ b u, s.heap.get? b = some u → h'.get? b = some u) : Inv X pins σ H { s with heap := h', toks := t' } := I.un (Un.kept k) (I.hok.kept k)
theorem Inv.laid {a : Addr} {o : HO} {t' : Nat} (I : Inv X pins σ H s) (k : ∀ b u, s.heap.get? b = some u → h'.get? b = some u) (hp : s.heap.objs.size ≤ a) (new : zR X.prog X.w (upd H a o) h' a o) :
    Inv X pins σ (upd H a o) { s with heap := h', toks := t' } := I.un (Un.laid k hp (I.hok.fresh hp)) (I.hok.laid k hp new)
theorem Inv.write {x e : Addr} {o : HO} {t' : Nat} (I : Inv X pins σ H s) (mu : Mut (H x)) (he : e = x ∨ H e = some (.own x)) (k : ∀ b u, b ≠ e → s.heap.get? b = some u → h'.get? b = some u) (heo : ∃ u, h'.get? e = some u)
    (new : zR X.prog X.w (upd H x o) h' x o) : Inv X pins σ (upd H x o) { s with heap := h', toks := t' } := I.un (Un.write mu he k heo) (I.hok.write mu he k heo new)
theorem Inv.weak {σ' : List (Option V)} (I : Inv X pins σ H s) (hl : σ'.length = σ.length) (w : ∀ (i : Nat) v, σ'[i]? = some (some v) → σ[i]? = some (some v)) : Inv X pins σ' H s :=
  ⟨I.ok, I.os, I.bare, I.base, let ⟨m, hn, hl'⟩ := I.loc; ⟨m, hn, fun i x v e1 e2 e3 => hl' i x v e1 (w i v e2) e3⟩, I.cell, I.free, I.freeC, I.pin, I.hok, hl.trans I.len⟩
theorem Inv.pins_of {pins' : List (Addr × Obj)} (I : Inv X pins σ H s) (h : ∀ p ∈ pins', s.heap.get? p.1 = some p.2 ∧ H p.1 = none ∧ p.1 ≠ X.env.locals ∧ p.1 ∉ X.fs ∧ ∀ v, p.2.data ≠ .cell v) : Inv X pins' σ H s :=
  ⟨I.ok, I.os, I.bare, I.base, I.loc, I.cell, I.free, I.freeC, fun p hp => (List.mem_append.mp hp).elim (fun z => I.pin p (List.mem_append_left _ z)) (h p), I.hok, I.len⟩
theorem Zy {N : List Str} (hN : N.Nodup) {i j : Nat} {x : Str} (a : N[i]? = some x) (b : N[j]? = some x) : i = j := by
  obtain ⟨h1, e1⟩ := List.getElem?_eq_some_iff.mp a
  obtain ⟨h2, e2⟩ := List.getElem?_eq_some_iff.mp b
  exact (List.getElem_inj hN).mp (e1.trans e2.symm)
theorem kE {M : Model} {A : Around} {E : Value → Shared → Prop} {i : Nat} {x : Str} {v : V} {u : Value} {Q : Unit → Shared → Prop} (I : Inv X pins σ H s) (hN : X.N.Nodup) (hi : X.N[i]? = some x) (hx : Loc X.env.scope x) (r : RelV v u)
    (h : ∀ s', Inv X pins (σ.set i (some v)) H s' → (∃ a, Heap.SameBut a s.heap s'.heap ∧ (a = X.env.locals ∨ X.env.cells.lookup x = some a)) → Q () s') (hf : X.fn x = true ∨ X.env.scope.names.lookup x = some .local := by first | exact .inl rfl | exact .inr rfl | assumption) : wpAny M A (storeName X.env x u) Q E s := by
  obtain ⟨m, hn, hl⟩ := id I.loc
  have hcls : (X.env.scope.kind == .class || (X.env.scope.kind == .module && X.env.locals != X.env.globals)) = false := by rw [I.ok.kind]; rfl
  have hiσ : i < σ.length := by rw [I.len]; exact (List.getElem?_eq_some_iff.mp hi).1
  have cne := I.cne
  have tracked : ∀ {a : Addr} {h' : Heap}, (∃ o, s.heap.get? a = some o ∧ H a = none) → Heap.SameBut a s.heap h' → HOk X.prog X.w H h' := fun {a h'} ha hs b ob e => by
    obtain ⟨_, _, hfree⟩ := ha
    refine (I.hok b ob e).stay (fun c w' hc q => (hs.2 c ?_).trans q) (fun _ q => q) fun _ _ q => q
    rintro rfl
    rcases hc with rfl | hc
    · rw [hfree] at e; cases e
    · rw [hfree] at hc; cases hc
  rcases hx with hk | hk
  · refine wpAny_storeName_local hk hn (fun h' hn' hs => ?_) hcls
    obtain ⟨oL, _, _, hoL, _⟩ := id hn
    refine h _ ⟨I.ok, I.os, I.bare, ⟨fun b o e n hb hx => ?_, fun b o e n hb hx => ?_, I.base.free, fun b o e hx => ?_, I.base.tups, I.base.frzs, I.base.tbls⟩, ⟨_, hn', fun j y v' e1 e2 e3 => ?_⟩, fun y c e => ?_, I.free, I.freeC, fun p hp => ?_, tracked ⟨oL, hoL, I.free⟩ hs, by simpa using I.len⟩ ⟨_, hs, .inl rfl⟩
    · exact (hs.2 b (Nat.ne_of_lt (Nat.lt_of_lt_of_le (Heap.lt_size e) I.ok.above))).trans (I.base.keep b o e n hb hx)
    · obtain ⟨sl, e1⟩ := I.base.slot b o e n hb hx
      exact ⟨sl, (hs.2 b (Nat.ne_of_lt (Nat.lt_of_lt_of_le (Heap.lt_size e) I.ok.above))).trans e1⟩
    · obtain ⟨o', e1⟩ := I.base.there b o e hx
      exact ⟨o', (hs.2 b (Nat.ne_of_lt (Nat.lt_of_lt_of_le (Heap.lt_size e) I.ok.above))).trans e1⟩
    · by_cases hj : j = i
      · subst hj
        rw [hi] at e1; cases e1
        rw [List.getElem?_set_self hiσ] at e2
        cases e2
        exact ⟨u, r, .inl ⟨hk, by simp⟩⟩
      · rw [List.getElem?_set_ne (Ne.symm hj)] at e2
        obtain ⟨u', r', q⟩ := hl j y v' e1 e2 e3
        refine ⟨u', r', ?_⟩
        rcases q with ⟨k, e⟩ | ⟨k, c, e, z⟩
        · refine .inl ⟨k, ?_⟩
          have : y ≠ x := fun e => hj (Zy hN e1 (e ▸ hi))
          simp [this, e]
        · exact .inr ⟨k, c, e, z.sameBut hs (cne y c e)⟩
    · obtain ⟨w', z⟩ := I.cell y c e
      exact ⟨w', z.sameBut hs (cne y c e)⟩
    · obtain ⟨e, n, ne, nf, d⟩ := I.pin p hp
      exact ⟨(hs.2 p.1 ne).trans e, n, ne, nf, d⟩
  · have hfn : X.fn x = true := by
      rcases hf with z | z
      · exact z
      · rw [z] at hk; cases hk
    obtain ⟨c, hc⟩ := I.ok.has x (.inl hk)
    obtain ⟨w', z⟩ := I.cell x c hc
    refine wpAny_storeName_cell I.ok.kind hk hc z (fun h' hc' hs => ?_)
    obtain ⟨oc, hoc, hocd⟩ := id z
    refine h { s with heap := h' } ⟨I.ok, I.os, I.bare, ⟨fun b o e n hb hx => ?_, fun b o e n hb hx => ?_, I.base.free, fun b o e hx => ?_, I.base.tups, I.base.frzs, I.base.tbls⟩, ⟨m, hn.sameBut hs (Ne.symm (cne x c hc)), fun j y v' e1 e2 e3 => ?_⟩, fun y c' e => ?_, I.free, I.freeC, fun p hp => ?_, tracked ⟨oc, hoc, I.freeC x c hc⟩ hs, by simpa using I.len⟩ ⟨c, hs, .inr hc⟩
    · exact (hs.2 b (Nat.ne_of_lt (Nat.lt_of_lt_of_le (Heap.lt_size e) (I.ok.cab x c hfn hc)))).trans (I.base.keep b o e n hb hx)
    · obtain ⟨sl, e1⟩ := I.base.slot b o e n hb hx
      exact ⟨sl, (hs.2 b (Nat.ne_of_lt (Nat.lt_of_lt_of_le (Heap.lt_size e) (I.ok.cab x c hfn hc)))).trans e1⟩
    · obtain ⟨o', e1⟩ := I.base.there b o e hx
      exact ⟨o', (hs.2 b (Nat.ne_of_lt (Nat.lt_of_lt_of_le (Heap.lt_size e) (I.ok.cab x c hfn hc)))).trans e1⟩
    · by_cases hj : j = i
      · subst hj
        rw [hi] at e1; cases e1
        rw [List.getElem?_set_self hiσ] at e2
        cases e2
        exact ⟨u, r, .inr ⟨.inl hk, c, hc, hc'⟩⟩
      · rw [List.getElem?_set_ne (Ne.symm hj)] at e2
        obtain ⟨u', r', q⟩ := hl j y v' e1 e2 e3
        refine ⟨u', r', ?_⟩
        rcases q with q | ⟨k, c', e, z'⟩
        · exact .inl q
        · refine .inr ⟨k, c', e, z'.sameBut hs ?_⟩
          rintro rfl
          exact hj (Zy hN e1 (I.ok.inj _ _ _ e hc ▸ hi))
    · by_cases hcc : c' = c
      · subst hcc; exact ⟨_, hc'⟩
      · obtain ⟨w2, z2⟩ := I.cell y c' e
        exact ⟨w2, z2.sameBut hs hcc⟩
    · obtain ⟨e, n, ne, nf, d⟩ := I.pin p hp
      refine ⟨(hs.2 p.1 ?_).trans e, n, ne, nf, d⟩
      intro q
      rw [q, hoc] at e
      have q' : oc = p.2 := Option.some.inj e
      exact d w' (by rw [← q']; exact hocd)
theorem qT {M : Model} {A : Around} {E : Value → Shared → Prop} {i : Nat} {x : Str} {v : V} {u : Value} {Q : Unit → Shared → Prop} (I : Inv X pins σ H s) (hN : X.N.Nodup) (hi : X.N[i]? = some x) (hx : Loc X.env.scope x) (r : RelV v u)
    (h : ∀ s', Inv X pins (σ.set i (some v)) H s' → Q () s') (hf : X.fn x = true ∨ X.env.scope.names.lookup x = some .local := by first | exact .inl rfl | exact .inr rfl | assumption) : wpAny M A (storeName X.env x u) Q E s :=
  kE I hN hi hx r (fun s' I' _ => h s' I') hf
theorem Inv.call' {s' : Shared} {ch : List Addr} (I : Inv X pins σ H s) (ho : s'.os = s.os) (u : Un (frs X.stack) ch H H' s.heap s'.heap) (hok : HOk X.prog X.w H' s'.heap) (hg : AllBare s'.gens)
    (hch : ∀ b ∈ ch, (b ∈ X.ex ∨ X.s₀.heap.objs.size ≤ b) ∧ b ≠ X.env.locals ∧ (∀ x c, X.env.cells.lookup x = some c → c ≠ b) ∧ ∀ p ∈ X.pn ++ pins, p.1 ≠ b) : Inv X pins σ H' s' := by
  obtain ⟨h', g', d', t', o'⟩ := s'
  have e : o' = s.os := ho
  subst e
  exact I.call (g' := g') (t' := t') (d' := d') u hok hg hch
end
noncomputable abbrev XK := Value → Option Addr → Hp → Prop
noncomputable abbrev St := List (Option V)
noncomputable abbrev VK := V → Hp → Prop
noncomputable abbrev TE := St → Hp → VK → Prop
noncomputable abbrev TT := St → Hp → (Bool → Hp → Prop) → Prop
noncomputable abbrev TA := St → Hp → (List V → Hp → Prop) → Prop
structure Ends where
  nx : St → Hp → Prop
  rt : VK
  bk : St → Hp → Prop := fun _ _ => False
  ct : St → Hp → Prop := fun _ _ => False
noncomputable abbrev TS := Ends → St → Hp → Prop
noncomputable def EP (X : Cx) (pins : List (Addr × Obj)) (σ : St) (Q : VK) (u : Value) (s' : Shared) : Prop := ∃ v H', Inv X pins σ H' s' ∧ RelV v u ∧ Q v H'
noncomputable def TP (X : Cx) (pins : List (Addr × Obj)) (σ : St) (Q : Bool → Hp → Prop) (b : Bool) (s' : Shared) : Prop := ∃ H', Inv X pins σ H' s' ∧ Q b H'
noncomputable def AP (X : Cx) (pins : List (Addr × Obj)) (σ : St) (Q : List V → Hp → Prop) (us : List Value) (s' : Shared) : Prop := ∃ vs H', Inv X pins σ H' s' ∧ Vals vs us ∧ Q vs H'
noncomputable def SP (X : Cx) (pins : List (Addr × Obj)) (D : Ends) (f : Flow) (s' : Shared) : Prop :=
  match f with
  | .next => ∃ σ' H', Inv X pins σ' H' s' ∧ D.nx σ' H'
  | .brk => ∃ σ' H', Inv X pins σ' H' s' ∧ D.bk σ' H'
  | .cont => ∃ σ' H', Inv X pins σ' H' s' ∧ D.ct σ' H'
  | .ret u => ∃ v σ' H', Inv X pins σ' H' s' ∧ RelV v u ∧ D.rt v H'
noncomputable def PE (X : Cx) (e : Expr) (t : TE) : Prop :=
  ∀ (pins : List (Addr × Obj)) (s : Shared) (σ : St) (H : Hp) (Q : VK), Inv X pins σ H s → t σ H Q → wpAny (model X.prog X.w) X.A (eval e X.env) (EP X pins σ Q) X.xe s
noncomputable def PT (X : Cx) (e : Expr) (t : TT) : Prop :=
  ∀ (pins : List (Addr × Obj)) (s : Shared) (σ : St) (H : Hp) (Q : Bool → Hp → Prop), Inv X pins σ H s → t σ H Q → wpAny (model X.prog X.w) X.A (isTrue e X.env (eval e X.env)) (TP X pins σ Q) X.xe s
noncomputable def PW (X : Cx) (e : Expr) (t : TT) : Prop :=
  ∀ (whole : Sem Value) (pins : List (Addr × Obj)) (s : Shared) (σ : St) (H : Hp) (Q : Bool → Hp → Prop), Inv X pins σ H s → t σ H Q → wpAny (model X.prog X.w) X.A (isTrue e X.env whole) (TP X pins σ Q) X.xe s
theorem PW.pt {X : Cx} {e : Expr} {t : TT} (h : PW X e t) : PT X e t := h _
noncomputable def PA (X : Cx) (es : List Expr) (t : TA) : Prop :=
  ∀ (pos : Pos) (pins : List (Addr × Obj)) (s : Shared) (σ : St) (H : Hp) (Q : List V → Hp → Prop), Inv X pins σ H s → t σ H Q → wpAny (model X.prog X.w) X.A (spliced (backTo pos (starEach es X.env))) (AP X pins σ Q) X.xe s
noncomputable def PS (X : Cx) (st : Stmt) (t : TS) : Prop :=
  ∀ (pins : List (Addr × Obj)) (s : Shared) (σ : St) (H : Hp) (D : Ends), Inv X pins σ H s → t D σ H → wpAny (model X.prog X.w) X.A (exec st X.env) (SP X pins D) X.xe s
noncomputable def PSs (X : Cx) (st : List Stmt) (t : TS) : Prop :=
  ∀ (pins : List (Addr × Obj)) (s : Shared) (σ : St) (H : Hp) (D : Ends), Inv X pins σ H s → t D σ H → wpAny (model X.prog X.w) X.A (execs st X.env) (SP X pins D) X.xe s
theorem thn {α : Type} {t : Sem α} {Q Q' : α → Shared → Prop} {M : Model} {A : Around} {E : Value → Shared → Prop} {s : Shared} (h : wpAny M A t Q E s) (hQ : ∀ a s, Q a s → Q' a s) : wpAny M A t Q' E s := wpAny_mono h hQ fun _ _ x => x
end L2
namespace L2
open PySem PySem.Spec PyProof.Rows
section
variable {X : Cx}
noncomputable def jY (i : Nat) : TE := fun σ H Q => ∃ v, σ[i]? = some (some v) ∧ Q v H
noncomputable def tC (v : V) : TE := fun _ H Q => Q v H
theorem zbf {i : Nat} {x : Str} {pos : Pos} (hN : X.N[i]? = some x) (hv : Vis X.env.scope x) (hd : (x == ("__debug__" : Str)) = false := by decide) (hcd : (x == ("__classdict__" : Str)) = false := by decide) : PE X (.Name x pos) (jY i) := by
  intro pins s σ H Q I h
  obtain ⟨v, e, h⟩ := h
  obtain ⟨m, hn, hl⟩ := I.loc
  obtain ⟨u, r, l⟩ := hl i x v hN e hv
  have fin : EP X pins σ Q u s := ⟨v, H, I, r, h⟩
  rcases l with ⟨hk, hm⟩ | ⟨hk, c, hc, hcell⟩
  · exact wpAny_Name (wpAny_loadName_local I.ok.kind hk hn hm fin) hd
  · rcases hk with hk | hk
    · exact wpAny_Name (wpAny_loadName_cell I.ok.kind hk hc hcell fin) hd
    · exact wpAny_Name (wpAny_loadName_free I.ok.kind hk hc hcell fin hcd) hd
theorem za {i j pos} : PE X (.Constant (.int i) j pos) (tC (.int i)) := fun _ _ _ H _ I h => wpAny_Constant_int ⟨.int i, H, I.tok _, ⟨_, rfl⟩, h⟩
theorem yR {b j pos} : PE X (.Constant (.bool b) j pos) (tC (.bl b)) := fun _ _ _ H _ I h => Constant_bool ⟨.bl b, H, I, rfl, h⟩
theorem jp {j pos} : PE X (.Constant .none j pos) (tC .non) := fun _ _ _ H _ I h => Constant_none ⟨.non, H, I, rfl, h⟩
theorem zm {x j pos} : PE X (.Constant (.str x) j pos) (tC (.str x)) := fun _ _ _ H _ I h => Calls.Constant_str ⟨.str x, H, I.tok _, ⟨_, rfl⟩, h⟩
noncomputable def Gl (X : Cx) (x : Str) : Prop := X.env.kindOf x = some .globalImplicit
theorem qt {E : Value → Shared → Prop} {pins : List (Addr × Obj)} {s : Shared} {σ : St} {H : Hp} {x : Str} {u : Value} {pos : Pos} {Q : Value → Shared → Prop} (I : Inv X pins σ H s) (hg : Gl X x) (hm : X.mg x = some u) (h : Q u s)
    (hd : (x == ("__debug__" : Str)) = false := by decide) : wpAny (model X.prog X.w) X.A (eval (.Name x pos) X.env) Q E s :=
  Calls.Name_function_global I.ok.kind hg (Calls.loadGlobal_global (by rw [I.ok.glob]; exact I.mod.glob.keeps I.bk) hm h) hd
theorem x8 {E : Value → Shared → Prop} {pins : List (Addr × Obj)} {s : Shared} {σ : St} {H : Hp} {x : Str} {u : Value} {pos : Pos} {Q : Value → Shared → Prop} (I : Inv X pins σ H s) (hg : Gl X x) (hm : X.mg x = none) (hv : bootBuiltins x = some u) (h : Q u s)
    (hn : x ≠ "__name__" := by decide) (hd : (x == ("__debug__" : Str)) = false := by decide) : wpAny (model X.prog X.w) X.A (eval (.Name x pos) X.env) Q E s := by
  obtain ⟨mb, h1, h2⟩ := I.mod.blt
  exact Calls.Name_function_global I.ok.kind hg (Calls.loadGlobal_builtin (by rw [I.ok.glob]; exact I.mod.glob.keeps I.bk) hm (by rw [I.ok.blt]; exact h1.keeps I.bk) ((h2 x hn).trans hv) h) hd
theorem yF {x : Str} {v : V} {u : Value} {pos : Pos} (hg : Gl X x) (hm : X.mg x = some u) (r : RelV v u) (hd : (x == ("__debug__" : Str)) = false := by decide) : PE X (.Name x pos) (tC v) :=
  fun _ _ _ H _ I h => qt I hg hm ⟨v, H, I, r, h⟩ hd
theorem zU {x : Str} {v : V} {u : Value} {pos : Pos} (hg : Gl X x) (hm : X.mg x = none) (hv : bootBuiltins x = some u) (r : RelV v u) (hn : x ≠ "__name__" := by decide) (hd : (x == ("__debug__" : Str)) = false := by decide) : PE X (.Name x pos) (tC v) :=
  fun _ _ _ H _ I h => x8 I hg hm hv ⟨v, H, I, r, h⟩ hn hd
variable {a b : Expr} {ta tb : TE} {pos : Pos}
noncomputable def tB (t : TE) : TT := fun σ H Q => t σ H fun x H1 => ∃ c, x = .bl c ∧ Q c H1
theorem yi {e : Expr} {t : TE} (h : PE X e t) (he : ∀ whole, isTrue e X.env whole = (do let v ← whole; standAt e.pos; holding [v] (truthy v)) := by intro _; rfl) : PT X e (tB t) := by
  intro pins s σ H Q I hw
  refine isTrue_plain (thn (h pins s σ H _ I hw) fun v s1 ⟨x, H1, I1, r1, q1⟩ => ?_) (he _)
  obtain ⟨d, rfl, q⟩ := q1
  cases r1
  exact wpAny_truthy_bool ⟨H1, I1, q⟩
variable {tA tB' : TT} {yh : List Expr}
noncomputable def Qy (t u : TT) : TT := fun σ H Q => t σ H fun c H1 => if c = true then u σ H1 Q else Q false H1
noncomputable def tOr (t u : TT) : TT := fun σ H Q => t σ H fun c H1 => if c = true then Q true H1 else u σ H1 Q
noncomputable def Qz (t : TT) : TT := fun σ H Q => t σ H fun c H1 => Q (!c) H1
theorem Xd (ha : PT X a tA) : PW X (.BoolOp .And [a] pos) tA := by
  intro wh pins s σ H Q I h
  refine isTrue_and (thn (ha pins s σ H Q I h) fun c s1 e => ?_)
  cases c with
  | true => exact isTrue_and_nil e
  | false => exact e
theorem y8 (ha : PT X a tA) : PW X (.BoolOp .Or [a] pos) tA := by
  intro wh pins s σ H Q I h
  refine isTrue_or (thn (ha pins s σ H Q I h) fun c s1 e => ?_)
  cases c with
  | false => exact isTrue_or_nil e
  | true => exact e
theorem V5 (ha : PT X a tA) (hb : PW X (.BoolOp .And (b :: yh) pos) tB') : PW X (.BoolOp .And (a :: b :: yh) pos) (Qy tA tB') := by
  intro wh pins s σ H Q I h
  refine isTrue_and (thn (ha pins s σ H _ I h) fun c s1 ⟨H1, I1, q1⟩ => ?_)
  cases c with
  | true => exact hb wh pins s1 σ H1 Q I1 q1
  | false => exact ⟨H1, I1, q1⟩
theorem xf (ha : PT X a tA) (hb : PW X (.BoolOp .Or (b :: yh) pos) tB') : PW X (.BoolOp .Or (a :: b :: yh) pos) (tOr tA tB') := by
  intro wh pins s σ H Q I h
  refine isTrue_or (thn (ha pins s σ H _ I h) fun c s1 ⟨H1, I1, q1⟩ => ?_)
  cases c with
  | true => exact ⟨H1, I1, q1⟩
  | false => exact hb wh pins s1 σ H1 Q I1 q1
theorem yj (ha : PT X a tA) : PT X (.UnaryOp .Not a pos) (Qz tA) := by
  intro pins s σ H Q I h
  exact isTrue_not (ha pins s σ H (fun c H1 => Q (!c) H1) I h)
noncomputable def XT (ta tb : TE) : TE := fun σ H Q => ta σ H fun x H1 => ∃ c, x = .bl c ∧ if c = true then tb σ H1 Q else Q (.bl false) H1
noncomputable def zdl (ta tb : TE) : TE := fun σ H Q => ta σ H fun x H1 => ∃ c, x = .bl c ∧ if c = true then Q (.bl true) H1 else tb σ H1 Q
noncomputable def XU (ta : TE) : TE := fun σ H Q => ta σ H fun x H1 => ∃ c, x = .bl c ∧ Q (.bl (!c)) H1
theorem x9 {op} {t : TE} (h : PE X a t) : PE X (.BoolOp op [a] pos) t := fun pins s σ H Q I hw => BoolOp_one (h pins s σ H Q I hw)
theorem y9 (ha : PE X a ta) (hb : PE X (.BoolOp .And (b :: yh) pos) tb) : PE X (.BoolOp .And (a :: b :: yh) pos) (XT ta tb) := by
  intro pins s σ H Q I h
  refine BoolOp_and (thn (ha pins s σ H _ I h) fun v s1 ⟨x, H1, I1, r1, q1⟩ => ?_)
  obtain ⟨c, rfl, q1⟩ := q1
  cases r1
  refine wpAny_truthy_bool ?_
  cases c with
  | true => exact hb pins s1 σ H1 Q I1 q1
  | false => exact ⟨.bl false, H1, I1, rfl, q1⟩
theorem V6 (ha : PE X a ta) : PE X (.UnaryOp .Not a pos) (XU ta) := by
  intro pins s σ H Q I h
  refine UnaryOp_ (thn (ha pins s σ H _ I h) fun v s1 ⟨x, H1, I1, r1, q1⟩ => ?_)
  obtain ⟨c, rfl, q1⟩ := q1
  cases r1
  exact not_of (wpAny_truthy_bool ⟨.bl (!c), H1, I1, rfl, q1⟩)
noncomputable def tIf (t : TT) (ta tb : TE) : TE := fun σ H Q => t σ H fun c H1 => if c = true then ta σ H1 Q else tb σ H1 Q
theorem QB {c : Expr} (hc : PT X c tA) (ha : PE X a ta) (hb : PE X b tb) : PE X (.IfExp c a b pos) (tIf tA ta tb) := by
  intro pins s σ H Q I h
  refine wpAny_IfExp (thn (hc pins s σ H _ I h) fun d s1 ⟨H1, I1, q1⟩ => ?_)
  cases d with
  | true => exact ha pins s1 σ H1 Q I1 q1
  | false => exact hb pins s1 σ H1 Q I1 q1
end
end L2
namespace L2
open PySem PySem.Spec PyProof.Rows
noncomputable def SqL (K : PySem.W.Frag) (H : Hp) (a : Addr) (xs : List V) : Prop :=
  Rd H a (.lst xs) ∨
    ∃ (o : Obj) (its : Array Value) (n : Nat), K.lookup a = some o ∧ o.cls = .type "list" ∧ o.dict = none ∧ o.data = .seq its n ∧ its.size ≤ sizeLine ∧ Vals xs its.toList
noncomputable def SqT (K : PySem.W.Frag) (H : Hp) (a : Addr) (xs : List V) : Prop :=
  Rd H a (.tup xs) ∨
    ∃ (o : Obj) (its : Array Value) (n : Nat), K.lookup a = some o ∧ o.cls = .type "tuple" ∧ o.data = .seq its n ∧ its.size ≤ sizeLine ∧ Vals xs its.toList
noncomputable def zdm : Value → Option V
  | .none => some .non
  | .bool b => some (.bl b)
  | .int i _ => some (.int i)
  | .str x _ => some (.str x)
  | .bytes b _ => some (.byt b)
  | .float b _ => some (.flt b)
  | .ref a => some (.ref a)
  | .type n => some (.ty n)
  | _ => none
theorem RelV.abs {x : V} {u : Value} (r : RelV x u) : zdm u = some x := by
  cases x with
  | non => cases r; rfl
  | bl _ => cases r; rfl
  | int _ => obtain ⟨t, rfl⟩ := r; rfl
  | str _ => obtain ⟨t, rfl⟩ := r; rfl
  | byt _ => obtain ⟨t, rfl⟩ := r; rfl
  | flt _ => obtain ⟨t, rfl⟩ := r; rfl
  | ref _ => cases r; rfl
  | ty _ => cases r; rfl
theorem RelV.inj {x y : V} {u : Value} (r : RelV x u) (q : RelV y u) : x = y := Option.some.inj (r.abs.symm.trans q.abs)
theorem Vals.inj : ∀ {xs ys : List V} {us : List Value}, Vals xs us → Vals ys us → xs = ys
  | _, _, _, .nil, .nil => rfl
  | _, _, _, .cons r t, .cons r' t' => by rw [r.inj r', Vals.inj t t']
section
variable {X : Cx} {pins : List (Addr × Obj)} {σ : St} {H : Hp} {s : Shared} {a : Addr} {xs ys : List V}
theorem SqL.of {K : PySem.W.Frag} (h : H a = some (.lst xs)) : SqL K H a xs := .inl (.inl h)
theorem SqT.of {K : PySem.W.Frag} (h : H a = some (.tup xs)) : SqT K H a xs := .inl (.inl h)
theorem Inv.list (I : Inv X pins σ H s) (h : SqL X.K H a xs) : ∃ its : List Value, Vals xs its ∧ PlainL s.heap a its.toArray ∧ xs.length ≤ sizeLine := by
  rcases h with h | ⟨o, its, n, hk, hc, hd, hs, hz, r⟩
  · obtain ⟨z, its, n, r, e⟩ := h.ok I.hok
    exact ⟨its, r, ⟨_, n, e, rfl, rfl, rfl⟩, z⟩
  · refine ⟨its.toList, r, ⟨o, n, I.kIn a o hk, hc, hd, by simpa using hs⟩, ?_⟩
    have e := r.length
    simp only [Array.length_toList] at e
    omega
theorem Inv.tuple (I : Inv X pins σ H s) (h : SqT X.K H a xs) : ∃ its : List Value, Vals xs its ∧ IsTup s.heap a its.toArray ∧ xs.length ≤ sizeLine := by
  rcases h with h | ⟨o, its, n, hk, hc, hs, hz, r⟩
  · obtain ⟨z, its, r, p⟩ := h.ok I.hok
    exact ⟨its, r, p, z⟩
  · refine ⟨its.toList, r, ⟨o, I.kIn a o hk, hc, n, by simpa using hs⟩, ?_⟩
    have e := r.length
    simp only [Array.length_toList] at e
    omega
theorem Inv.list_inj (I : Inv X pins σ H s) (h : SqL X.K H a xs) (h' : SqL X.K H a ys) : xs = ys := by
  obtain ⟨its, r, ⟨o, n, e, _, _, d⟩, _⟩ := I.list h
  obtain ⟨its', r', ⟨o', n', e', _, _, d'⟩, _⟩ := I.list h'
  rw [e] at e'; cases e'
  rw [d] at d'
  injection d' with d1 _
  have : its = its' := by simpa using congrArg Array.toList d1
  subst this
  exact r.inj r'
theorem Inv.tuple_inj (I : Inv X pins σ H s) (h : SqT X.K H a xs) (h' : SqT X.K H a ys) : xs = ys := by
  obtain ⟨its, r, ⟨o, e, _, n, d⟩, _⟩ := I.tuple h
  obtain ⟨its', r', ⟨o', e', _, n', d'⟩, _⟩ := I.tuple h'
  rw [e] at e'; cases e'
  rw [d] at d'
  injection d' with d1 _
  have : its = its' := by simpa using congrArg Array.toList d1
  subst this
  exact r.inj r'
end
noncomputable abbrev Cx.wish (X : Cx) (E : Value → Shared → Prop) : Cx := { X with xe := E }
noncomputable abbrev Cx.nox (X : Cx) : Cx := X.wish fun _ _ => False
theorem Cx.Ok.wish {X : Cx} (ok : X.Ok) (E : Value → Shared → Prop) : (X.wish E).Ok :=
  ⟨ok.mod, ok.kind, ok.glob, ok.blt, ok.above, ok.inj, ok.has, ok.cab, ok.hd, ok.frames, ok.stk, ok.exf, ok.bs, ok.bsz, ok.noex, ok.exfs, ok.funs, ok.frf⟩
theorem Cx.Ok.unwish {X : Cx} {E : Value → Shared → Prop} (ok : (X.wish E).Ok) : X.Ok :=
  ⟨ok.mod, ok.kind, ok.glob, ok.blt, ok.above, ok.inj, ok.has, ok.cab, ok.hd, ok.frames, ok.stk, ok.exf, ok.bs, ok.bsz, ok.noex, ok.exfs, ok.funs, ok.frf⟩
section
variable {X : Cx} {pins : List (Addr × Obj)} {σ : St} {H : Hp} {s : Shared} {E : Value → Shared → Prop}
theorem Inv.wish (I : Inv X pins σ H s) (E : Value → Shared → Prop) : Inv (X.wish E) pins σ H s := ⟨I.ok.wish E, I.os, I.bare, I.base, I.loc, I.cell, I.free, I.freeC, I.pin, I.hok, I.len⟩
theorem Inv.unwish (I : Inv (X.wish E) pins σ H s) : Inv X pins σ H s := ⟨I.ok.unwish, I.os, I.bare, I.base, I.loc, I.cell, I.free, I.freeC, I.pin, I.hok, I.len⟩
theorem SP.unwish {D : Ends} {f : Flow} {s' : Shared} (h : SP (X.wish E) pins D f s') : SP X pins D f s' := by
  cases f with
  | next => obtain ⟨σ', H', I, q⟩ := h; exact ⟨σ', H', I.unwish, q⟩
  | brk => obtain ⟨σ', H', I, q⟩ := h; exact ⟨σ', H', I.unwish, q⟩
  | cont => obtain ⟨σ', H', I, q⟩ := h; exact ⟨σ', H', I.unwish, q⟩
  | ret u => obtain ⟨v, σ', H', I, r, q⟩ := h; exact ⟨v, σ', H', I.unwish, r, q⟩
theorem PE.nox {e : Expr} {t : TE} (h : PE X.nox e t) : PE X e t := fun pins s σ H Q I hw =>
  wpAny_mono (h pins s σ H Q (I.wish _) hw) (fun _ _ ⟨v, H', I', r, q⟩ => ⟨v, H', I'.unwish, r, q⟩) fun _ _ z => False.elim z
theorem PT.nox {e : Expr} {t : TT} (h : PT X.nox e t) : PT X e t := fun pins s σ H Q I hw =>
  wpAny_mono (h pins s σ H Q (I.wish _) hw) (fun _ _ ⟨H', I', q⟩ => ⟨H', I'.unwish, q⟩) fun _ _ z => False.elim z
theorem PSs.nox {st : List Stmt} {t : TS} (h : PSs X.nox st t) : PSs X st t := fun pins s σ H D I hw =>
  wpAny_mono (h pins s σ H D (I.wish _) hw) (fun _ _ q => q.unwish) fun _ _ z => False.elim z
end
section
variable {X : Cx} {st : Stmt} {yh : List Stmt} {t u : TS} {e : Expr} {te : TE} {pos : Pos}
noncomputable def XV : TS := fun D σ H => D.nx σ H
noncomputable def jZ (t u : TS) : TS := fun D σ H => t { D with nx := u D } σ H
theorem zw : PSs X [] XV := fun _ _ σ H _ I h => wpAny_execs_nil ⟨σ, H, I, h⟩
theorem zc (h1 : PS X st t) (h2 : PSs X yh u) : PSs X (st :: yh) (jZ t u) := by
  intro pins s σ H D I h
  refine wpAny_execs_cons (thn (h1 pins s σ H { D with nx := u D } I h) fun f s1 q => ?_)
  cases f with
  | next =>
    obtain ⟨σ', H', I', q⟩ := q
    exact h2 pins s1 σ' H' D I' q
  | ret v => exact q
  | brk => exact q
  | cont => exact q
theorem zf (h1 : PS X st t) : PSs X [st] t := by
  intro pins s σ H D I h
  refine wpAny_execs_cons (thn (h1 pins s σ H D I h) fun f s1 q => ?_)
  cases f with
  | next => exact wpAny_execs_nil q
  | ret v => exact q
  | brk => exact q
  | cont => exact q
theorem Inv.quiet {pins : List (Addr × Obj)} {σ : St} {H : Hp} {s : Shared} (I : Inv X pins σ H s) : interactive X.env = false := by simp [interactive, I.ok.kind]
noncomputable def jq (te : TE) : TS := fun D σ H => te σ H fun _ H1 => D.nx σ H1
theorem ym (he : PE X e te) (hs : swapsWith e none pos.line X.env = pure false := by rfl) : PS X (.Expr e pos) (jq te) := by
  intro pins s σ H D I h
  exact wpAny_Expr_any (thn (he pins s σ H _ I h) fun v s1 ⟨x, H1, I1, r1, q1⟩ => ⟨σ, H1, I1, q1⟩) I.quiet hs
noncomputable def Zz (te : TE) : TS := fun D σ H => te σ H D.rt
theorem zk (he : PE X e te) : PS X (.Return (some e) pos) (Zz te) := by
  intro pins s σ H D I h
  exact wpAny_Return_some (thn (he pins s σ H _ I h) fun v s1 ⟨x, H1, I1, r1, q1⟩ => ⟨x, σ, H1, I1, r1, q1⟩)
noncomputable def XW (c : TT) (t u : TS) : TS := fun D σ H => c σ H fun b H1 => if b = true then t D σ H1 else u D σ H1
theorem zI {c : Expr} {a b : List Stmt} {tc : TT} (hc : PT X c tc) (ha : PSs X a t) (hb : PSs X b u) : PS X (.If c a b pos) (XW tc t u) := by
  intro pins s σ H D I h
  refine wpAny_If (thn (hc pins s σ H _ I h) fun d s1 ⟨H1, I1, q1⟩ => ?_)
  cases d with
  | true => exact ha pins s1 σ H1 D I1 q1
  | false => exact hb pins s1 σ H1 D I1 q1
end
noncomputable abbrev TG := V → St → Hp → (St → Hp → Prop) → Prop
noncomputable abbrev TGs := List V → St → Hp → (St → Hp → Prop) → Prop
noncomputable def PG (X : Cx) (target : Expr) (t : TG) : Prop :=
  ∀ (pins : List (Addr × Obj)) (s : Shared) (σ : St) (H : Hp) (v : V) (u : Value) (Q : St → Hp → Prop), Inv X pins σ H s → RelV v u → t v σ H Q →
    wpAny (model X.prog X.w) X.A (assign target X.env u) (fun _ s' => ∃ σ' H', Inv X pins σ' H' s' ∧ Q σ' H') X.xe s
noncomputable def PGs (X : Cx) (ts : List Expr) (t : TGs) : Prop :=
  ∀ (pins : List (Addr × Obj)) (s : Shared) (σ : St) (H : Hp) (vs : List V) (us : List Value) (Q : St → Hp → Prop), Inv X pins σ H s → Vals vs us → t vs σ H Q →
    wpAny (model X.prog X.w) X.A (assignInOrder ((assignEach ts X.env).map (·.2)) us) (fun _ s' => ∃ σ' H', Inv X pins σ' H' s' ∧ Q σ' H') X.xe s
section
variable {X : Cx} {pos : Pos}
noncomputable def vQ (i : Nat) : TG := fun v σ H Q => Q (σ.set i (some v)) H
theorem zo {i : Nat} {x : Str} (hN : X.N.Nodup) (hi : X.N[i]? = some x) (hx : Loc X.env.scope x) (hf : X.fn x = true ∨ X.env.scope.names.lookup x = some .local := by first | exact .inl rfl | exact .inr rfl | assumption) : PG X (.Name x pos) (vQ i) := by
  intro pins s σ H v u Q I r h
  exact wpAny_assign_Name (qT I hN hi hx r (fun s' I' => ⟨_, H, I', h⟩) hf)
noncomputable def zbg : TGs := fun vs σ H Q => vs = [] ∧ Q σ H
noncomputable def JT (t : TG) (u : TGs) : TGs := fun vs σ H Q => ∃ v r, vs = v :: r ∧ t v σ H fun σ' H' => u r σ' H' Q
theorem xF : PGs X [] zbg := by
  intro pins s σ H vs us Q I r h
  obtain ⟨e, h⟩ := h
  subst e
  cases r
  exact assignInOrder_nil ⟨σ, H, I, h⟩
theorem zT {e : Expr} {es : List Expr} {t : TG} {u : TGs} (h1 : PG X e t) (h2 : PGs X es u)
    (hs : (assignEach (e :: es) X.env).map (·.2) = assign e X.env :: (assignEach es X.env).map (·.2) := by rfl) : PGs X (e :: es) (JT t u) := by
  intro pins s σ H vs us Q I r h
  obtain ⟨v, vr, e1, h⟩ := h
  subst e1
  cases r with
  | cons r rr =>
    rw [hs]
    refine assignInOrder_cons (thn (h1 pins s σ H _ _ _ I r h) fun _ s1 ⟨σ1, H1, I1, q1⟩ => ?_)
    exact h2 pins s1 σ1 H1 _ _ Q I1 rr q1
noncomputable def QC (K : PySem.W.Frag) (n : Nat) (t : TGs) : TG := fun v σ H Q => ∃ a xs, v = .ref a ∧ SqT K H a xs ∧ xs.length = n ∧ t xs σ H Q
theorem zbh {es : List Expr} {k : Nat} {t : TGs} {n : Nat} (hc : X.calm = true) (h : PGs X es t)
    (hn : (assignEach es X.env).length = n := by rfl) (hst : (assignEach es X.env).findIdx? (·.1) = none := by rfl) : PG X (.Tuple es k pos) (QC X.K n t) := by
  intro pins s σ H v u Q I r hw
  obtain ⟨a, xs, e1, hq, hl, hw⟩ := hw
  subst e1
  cases r
  obtain ⟨its, rv, ht, hz⟩ := I.tuple hq
  refine assign_Tuple_tuple (I.ok.hd hc) ht (by simp [hn, ← hl, rv.length]) hst fun h' hx => ?_
  have I1 : Inv X pins σ H { s with heap := h' } := I.kept (t' := s.toks) fun b o e => hx b o (Nat.ne_of_lt (Heap.lt_size e)) e
  exact h pins _ σ H xs _ Q I1 (by simpa using rv) hw
noncomputable def qU (te : TE) (g : TG) : TS := fun D σ H => te σ H fun x H1 => g x σ H1 D.nx
theorem zbi {tg e : Expr} {te : TE} {g : TG} (he : PE X e te) (hg : PG X tg g) (hs : swapsWithSole [tg] e pos.line X.env = pure false := by rfl) (hw : swappedStores [tg] e X.env = pure none := by rfl)
    (h1 : (assignEach [tg] X.env).map (·.2) = [assign tg X.env] := by rfl) : PS X (.Assign [tg] e pos) (qU te g) := by
  intro pins s σ H D I h
  refine wpAny_Assign_stores (thn (he pins s σ H _ I h) fun v s1 ⟨x, H1, I1, r1, q1⟩ => ?_) hs hw
  rw [h1]
  exact thn (hg pins s1 σ H1 x v _ I1 r1 q1) fun _ s2 q => q
theorem zp {i : Nat} {x : Str} {e : Expr} {te : TE} {pos' : Pos} (hN : X.N.Nodup) (hi : X.N[i]? = some x) (hx : Loc X.env.scope x) (he : PE X e te) (hs : swapsWith e (some (.Name x pos')) pos.line X.env = pure false := by rfl) (hf : X.fn x = true ∨ X.env.scope.names.lookup x = some .local := by first | exact .inl rfl | exact .inr rfl | assumption) :
    PS X (.Assign [.Name x pos'] e pos) (qU te (vQ i)) := by
  intro pins s σ H D I h
  refine wpAny_Assign_Name (thn (he pins s σ H _ I h) fun v s1 ⟨y, H1, I1, r1, q1⟩ => ?_) hs
  exact qT I1 hN hi hx r1 (fun s2 I2 => ⟨_, H1, I2, q1⟩) hf
end
section
variable {X : Cx} {pos : Pos}
noncomputable def V7 (c : TT) (tb : TS) : TS := fun D σ H => ∃ W : Nat → St → Hp → Prop, (∃ m, W m σ H) ∧ ∀ m σ H, W m σ H →
  c σ H fun b H1 => if b = true then ∃ N : St → Hp → Prop, (∀ σ' H', N σ' H' → ∃ m', m' < m ∧ W m' σ' H') ∧ tb { D with nx := N, ct := N, bk := D.nx } σ H1 else D.nx σ H1
theorem ZA {c : Expr} {body : List Stmt} {tc : TT} {tb : TS} (hp : PassesOwn (model X.prog X.w) X.A X.env X.xe) (hc : PT X c tc) (hb : PSs X body tb) : PS X (.While c body [] pos) (V7 tc tb) := by
  intro pins s σ H D I h
  obtain ⟨W, ⟨m0, w0⟩, turn⟩ := h
  refine wpAny_While (codeAny_whileLoop (fun n s' => ∃ σ' H', Inv X pins σ' H' s' ∧ W n σ' H') ?_ m0 ⟨σ, H, I, w0⟩)
  rintro n s1 ⟨σ1, H1, I1, w1⟩
  refine wpAny_passesOwn hp (thn (hc pins s1 σ1 H1 _ I1 (turn n σ1 H1 w1)) fun b s2 ⟨H2, I2, q2⟩ => ?_)
  cases b with
  | true =>
    obtain ⟨N, hN, q2⟩ := q2
    rw [if_pos rfl]
    refine wpAny_passesOwn hp (thn (hb pins s2 σ1 H2 _ I2 q2) fun f s3 q3 => ?_)
    cases f with
    | next =>
      obtain ⟨σ3, H3, I3, n3⟩ := q3
      obtain ⟨m', hm, w3⟩ := hN σ3 H3 n3
      exact ⟨m', hm, σ3, H3, I3, w3⟩
    | cont =>
      obtain ⟨σ3, H3, I3, n3⟩ := q3
      obtain ⟨m', hm, w3⟩ := hN σ3 H3 n3
      exact ⟨m', hm, σ3, H3, I3, w3⟩
    | brk => exact q3
    | ret v => exact q3
  | false =>
    rw [if_neg Bool.false_ne_true]
    exact wpAny_execs_nil ⟨σ1, H2, I2, q2⟩
end
structure It where
  go : Nat → Hp → Prop
  yld : Nat → Hp → V → Hp → Prop
  stop : Nat → Hp → Prop
noncomputable def FpOk (X : Cx) (pins : List (Addr × Obj)) (H : Hp) (b : Addr) : Prop :=
  H b = none ∧ b ≠ X.env.locals ∧ b ∉ X.fs ∧ (b ∈ X.ex ∨ X.s₀.heap.objs.size ≤ b) ∧ (∀ x c, X.env.cells.lookup x = some c → c ≠ b) ∧ ∀ p ∈ X.pn ++ pins, p.1 ≠ b
theorem Inv.fpOk {X : Cx} {pins : List (Addr × Obj)} {σ : St} {H H' : Hp} {s : Shared} {b : Addr} (I : Inv X pins σ H s) (hb : s.heap.objs.size ≤ b) (hn : H' b = none) : FpOk X pins H' b := by
  refine ⟨hn, Nat.ne_of_gt (Nat.lt_of_lt_of_le I.lt hb), I.nofs hb, .inr (Nat.le_trans I.sz hb), fun x c e z => ?_, fun p hp z => ?_⟩
  · obtain ⟨v, q⟩ := I.cell x c e
    exact absurd (Nat.lt_of_lt_of_le q.lt (by rw [z]; exact hb)) (Nat.lt_irrefl _)
  · exact absurd (Nat.lt_of_lt_of_le (Heap.lt_size (I.pin p hp).1) (by rw [z]; exact hb)) (Nat.lt_irrefl _)
structure Turn (P : Program) (w : World) (K : PySem.W.Frag) (tg : Expr) (J : It) (fp : List Addr) (it : Addr) (tn : Nat → Heap → Prop) : Prop where
  mem : it ∈ fp
  obj : ∀ i h, tn i h → ∀ b ∈ fp, ∃ o, h.get? b = some o ∧ ∀ v, o.data ≠ .cell v
  keep : ∀ i h h', tn i h → (∀ b ∈ fp, ∀ o, h.get? b = some o → h'.get? b = some o) → tn i h'
  item : ∀ (X : Cx), X.prog = P → X.w = w → X.K = K → X.calm = true → ∀ (i : Nat) (pins : List (Addr × Obj)) (s : Shared) (σ : St) (H : Hp) (E : Value → Shared → Prop), Inv X pins σ H s → (∀ b ∈ fp, FpOk X pins H b) → tn i s.heap → J.go i H →
    wpAny (model P w) X.A (pyNext (.ref it)) (fun r s1 => ∃ u, r = some u ∧
      wpAny (model P w) X.A (letOwnedTupleGo tg (.ref it) u) (fun _ s2 => ∃ x H', Inv X pins σ H' s2 ∧ RelV x u ∧ J.yld i H x H' ∧ tn (i + 1) s2.heap ∧ ∀ b ∈ fp, H' b = none) E s1) E s
  done : ∀ (X : Cx), X.prog = P → X.w = w → X.K = K → X.calm = true → ∀ (i : Nat) (pins : List (Addr × Obj)) (s : Shared) (σ : St) (H : Hp) (E : Value → Shared → Prop), Inv X pins σ H s → (∀ b ∈ fp, FpOk X pins H b) → tn i s.heap → J.stop i H →
    wpAny (model P w) X.A (pyNext (.ref it)) (fun r s1 => r = none ∧ Inv X pins σ H s1) E s
  self : ∀ (A : Around) (i : Nat) (s : Shared) (Q : Value → Shared → Prop) (E : Value → Shared → Prop), tn i s.heap → Q (.ref it) s → wpAny (model P w) A (pyIter (.ref it)) Q E s
noncomputable abbrev TI := St → Hp → (It → Hp → Prop) → Prop
noncomputable def PIE (X : Cx) (pins : List (Addr × Obj)) (σ : St) (tg : Expr) (R : It → Hp → Prop) (itv : Value) (s2 : Shared) : Prop :=
  ∃ (it : Addr) (fp : List Addr) (tn : Nat → Heap → Prop) (J : It) (H' : Hp), itv = .ref it ∧ Inv X pins σ H' s2 ∧ Turn X.prog X.w X.K tg J fp it tn ∧ tn 0 s2.heap ∧ (∀ b ∈ fp, FpOk X pins H' b) ∧ R J H'
noncomputable def PI (X : Cx) (tg iter : Expr) (wi : TI) : Prop :=
  ∀ (pins : List (Addr × Obj)) (s : Shared) (σ : St) (H : Hp) (R : It → Hp → Prop), Inv X pins σ H s → wi σ H R →
    wpAny (model X.prog X.w) X.A (eval iter X.env) (fun v s1 => wpAny (model X.prog X.w) X.A (pyIter v) (PIE X pins σ tg R) X.xe s1) X.xe s
theorem XX {M : Model} {A : Around} {E : Value → Shared → Prop} {s : Shared} {tg : Expr} {it : Addr} {u : Value} {o : Obj} {n : String} {vs : Array Value} {Q : Unit → Shared → Prop} (ho : s.heap.get? it = some o) (hc : o.cls = .type n) (hd : o.data = .fields vs)
    (hn : ["enumerate", "zip", "dict_itemiterator", "dict_reverseitemiterator", "odict_iterator", "itertools.zip_longest", "itertools.pairwise"].contains n = false) (hQ : Q () s) : wpAny M A (letOwnedTupleGo tg (.ref it) u) Q E s := by
  unfold letOwnedTupleGo
  cases tg <;> first
    | exact wpAny_pure hQ
    | (cases u <;> first
        | exact wpAny_pure hQ
        | (refine wpAny_bind (wpAny_load ho ?_)
           rw [hc, hd]
           show wpAny M A (if (["enumerate", "zip", "dict_itemiterator", "dict_reverseitemiterator", "odict_iterator", "itertools.zip_longest", "itertools.pairwise"].contains n && vs[0]? == some (rawInt _)) = true then _ else _) Q E s
           rw [if_neg (by intro h; rw [hn, Bool.false_and] at h; cases h)]
           exact wpAny_pure hQ))
noncomputable def Itl (K : PySem.W.Frag) (a : Addr) : It :=
  ⟨fun i H => ∃ xs x, SqL K H a xs ∧ xs[i]? = some x, fun i H x H' => H' = H ∧ ∀ xs, SqL K H a xs → xs[i]? = some x, fun i H => ∃ xs, SqL K H a xs ∧ xs.length ≤ i⟩
noncomputable def Itt (K : PySem.W.Frag) (a : Addr) : It :=
  ⟨fun i H => ∃ xs x, SqT K H a xs ∧ xs[i]? = some x, fun i H x H' => H' = H ∧ ∀ xs, SqT K H a xs → xs[i]? = some x, fun i H => ∃ xs, SqT K H a xs ∧ xs.length ≤ i⟩
noncomputable def Itr (lo : Int) (n : Nat) : It := ⟨fun i _ => i < n, fun i H x H' => H' = H ∧ x = .int (lo + i), fun i _ => n ≤ i⟩
theorem V8 {P : Program} {w : World} {K : PySem.W.Frag} {tg : Expr} (a it : Addr) : Turn P w K tg (Itl K a) [it] it (fun i h => h.IsListIter it a i) where
  mem := by simp
  obj := fun i h st b hb => by
    have e : b = it := by simpa using hb
    subst e
    obtain ⟨o, e, c, d⟩ := st
    exact ⟨o, e, fun v z => by rw [d] at z; cases z⟩
  keep := fun i h h' st k => st.at fun o e => k it (by simp) o e
  item := by
    intro X hP hw hK hc i pins s σ H E I hf st hg
    subst hP hw hK
    obtain ⟨xs, x, hq, hx⟩ := hg
    obtain ⟨its, rv, p, hz⟩ := I.list hq
    obtain ⟨u, hu, ru⟩ := rv.get hx
    obtain ⟨f0, f1, f2, f3, f4, f5⟩ := hf it (by simp)
    refine wpAny_pyNext_list_item st p.isList (x := u) (by simpa using hu) fun h' st' sb => ?_
    have I1 : Inv X pins σ H { s with heap := h' } := I.turned (t' := s.toks) (fun b o hb e => (sb.2 b hb).trans e) f0 f1 f3 f4 f5
    obtain ⟨o, e, c, d⟩ := id st'
    exact ⟨u, rfl, XX (s := { s with heap := h' }) e c d (by decide) ⟨x, H, I1, ru, ⟨rfl, fun ys hy => by rw [I.list_inj hy hq]; exact hx⟩, st', fun b hb => (hf b hb).1⟩⟩
  done := by
    intro X hP hw hK hc i pins s σ H E I hf st hg
    subst hP hw hK
    obtain ⟨xs, hq, hx⟩ := hg
    obtain ⟨its, rv, p, hz⟩ := I.list hq
    obtain ⟨f0, f1, f2, f3, f4, f5⟩ := hf it (by simp)
    have hl := rv.length
    exact wpAny_pyNext_list_end (I.ok.hd hc) st p.isList (by simp; omega) fun h' eb => ⟨rfl, I.turned (t' := s.toks) (fun b o hb e => eb b o hb e) f0 f1 f3 f4 f5⟩
  self := fun _ _ _ _ _ st h => wpAny_pyIter_listiter st h
theorem XY {P : Program} {w : World} {K : PySem.W.Frag} {tg : Expr} (a it : Addr) : Turn P w K tg (Itt K a) [it] it (fun i h => h.IsTupleIter it a i) where
  mem := by simp
  obj := fun i h st b hb => by
    have e : b = it := by simpa using hb
    subst e
    obtain ⟨o, e, c, d⟩ := st
    exact ⟨o, e, fun v z => by rw [d] at z; cases z⟩
  keep := fun i h h' st k => st.at fun o e => k it (by simp) o e
  item := by
    intro X hP hw hK hc i pins s σ H E I hf st hg
    subst hP hw hK
    obtain ⟨xs, x, hq, hx⟩ := hg
    obtain ⟨its, rv, p, hz⟩ := I.tuple hq
    obtain ⟨u, hu, ru⟩ := rv.get hx
    obtain ⟨f0, f1, f2, f3, f4, f5⟩ := hf it (by simp)
    refine wpAny_pyNext_tuple_item st (show s.heap.IsTuple a its.toArray from p) (x := u) (by simpa using hu) fun h' st' sb => ?_
    have I1 : Inv X pins σ H { s with heap := h' } := I.turned (t' := s.toks) (fun b o hb e => (sb.2 b hb).trans e) f0 f1 f3 f4 f5
    obtain ⟨o, e, c, d⟩ := id st'
    exact ⟨u, rfl, XX (s := { s with heap := h' }) e c d (by decide) ⟨x, H, I1, ru, ⟨rfl, fun ys hy => by rw [I.tuple_inj hy hq]; exact hx⟩, st', fun b hb => (hf b hb).1⟩⟩
  done := by
    intro X hP hw hK hc i pins s σ H E I hf st hg
    subst hP hw hK
    obtain ⟨xs, hq, hx⟩ := hg
    obtain ⟨its, rv, p, hz⟩ := I.tuple hq
    obtain ⟨f0, f1, f2, f3, f4, f5⟩ := hf it (by simp)
    have hl := rv.length
    exact wpAny_pyNext_tuple_end (I.ok.hd hc) st (show s.heap.IsTuple a its.toArray from p) (by simp; omega) fun h' eb => ⟨rfl, I.turned (t' := s.toks) (fun b o hb e => eb b o hb e) f0 f1 f3 f4 f5⟩
  self := fun _ _ _ _ _ st h => wpAny_pyIter_tupleiter st h
theorem XZ {P : Program} {w : World} {K : PySem.W.Frag} {tg : Expr} (it : Addr) (lo : Int) (n : Nat) : Turn P w K tg (Itr lo n) [it] it (fun i h => IsRangeIter h it (lo + (i : Nat) * 1) ((n : Int) - (i : Nat)) 1) where
  mem := by simp
  obj := fun i h st b hb => by
    have e : b = it := by simpa using hb
    subst e
    exact ⟨_, st, fun v z => by
      have z' : Data.fields _ = Data.cell v := z
      cases z'⟩
  keep := fun i h h' st k => k it (by simp) _ st
  item := by
    intro X hP hw hK hc i pins s σ H E I hf st hg
    subst hP hw hK
    obtain ⟨f0, f1, f2, f3, f4, f5⟩ := hf it (by simp)
    have W := Walks.range (prog := X.prog) (w := X.w) (I.ok.hd hc) it lo 1 n
    refine W.item i s _ _ hg st fun v h' tk hv st' kk => ?_
    obtain ⟨t, rfl⟩ := hv
    have I1 : Inv X pins σ H { s with heap := h', toks := tk } := I.turned (fun b o hb e => kk b o (by simpa using hb) e) f0 f1 f3 f4 f5
    refine ⟨_, rfl, XX (s := { s with heap := h', toks := tk }) (n := "range_iterator") st' rfl rfl (by decide) ⟨.int (lo + i), H, I1, ⟨t, ?_⟩, ⟨rfl, rfl⟩, st', fun b hb => (hf b hb).1⟩⟩
    rw [Int.mul_one]
  done := by
    intro X hP hw hK hc i pins s σ H E I hf st hg
    subst hP hw hK
    obtain ⟨f0, f1, f2, f3, f4, f5⟩ := hf it (by simp)
    exact wpAny_pyNext_range_end (I.ok.hd hc) st (by have : n ≤ i := hg; omega) fun h' eb => ⟨rfl, I.turned (t' := s.toks) (fun b o hb e => eb b o hb e) f0 f1 f3 f4 f5⟩
  self := fun _ _ _ _ _ st h => wpAny_pyIter_rangeiter st h
end L2
namespace L2
open PySem PySem.Spec PyProof.Rows
section
variable {X : Cx} {tg : Expr}
noncomputable def X0 (K : PySem.W.Frag) (tl : TE) : TI := fun σ H R => tl σ H fun x H1 => ∃ a, x = .ref a ∧ (∃ xs, SqL K H1 a xs) ∧ R (Itl K a) H1
noncomputable def QD (K : PySem.W.Frag) (tl : TE) : TI := fun σ H R => tl σ H fun x H1 => ∃ a, x = .ref a ∧ (∃ xs, SqT K H1 a xs) ∧ R (Itt K a) H1
theorem KR {l : Expr} {tl : TE} (hl : PE X l tl) : PI X tg l (X0 X.K tl) := by
  intro pins s σ H R I h
  refine thn (hl pins s σ H _ I h) fun v s1 ⟨x, H1, I1, r1, q1⟩ => ?_
  obtain ⟨a, e, ⟨xs, hq⟩, q⟩ := q1
  subst e
  cases r1
  obtain ⟨its, rv, p, hz⟩ := I1.list hq
  refine wpAny_pyIter_list p.isList ?_
  refine ⟨s1.heap.objs.size, [s1.heap.objs.size], _, _, H1, rfl, I1.kept (t' := s1.toks) fun b o e => Heap.get?_push_of_some _ e, V8 a _, ⟨_, Heap.get?_push_size _ rfl, rfl, rfl⟩, fun b hb => ?_, q⟩
  have e : b = s1.heap.objs.size := by simpa using hb
  subst e
  exact I1.fpOk (Nat.le_refl _) (I1.hok.fresh (Nat.le_refl _))
theorem zbj {l : Expr} {tl : TE} (hl : PE X l tl) : PI X tg l (QD X.K tl) := by
  intro pins s σ H R I h
  refine thn (hl pins s σ H _ I h) fun v s1 ⟨x, H1, I1, r1, q1⟩ => ?_
  obtain ⟨a, e, ⟨xs, hq⟩, q⟩ := q1
  subst e
  cases r1
  obtain ⟨its, rv, p, hz⟩ := I1.tuple hq
  refine wpAny_pyIter_tuple (show s1.heap.IsTuple a its.toArray from p) ?_
  refine ⟨s1.heap.objs.size, [s1.heap.objs.size], _, _, H1, rfl, I1.kept (t' := s1.toks) fun b o e => Heap.get?_push_of_some _ e, XY a _, ⟨_, Heap.get?_push_size _ rfl, rfl, rfl⟩, fun b hb => ?_, q⟩
  have e : b = s1.heap.objs.size := by simpa using hb
  subst e
  exact I1.fpOk (Nat.le_refl _) (I1.hok.fresh (Nat.le_refl _))
theorem ZB {pins : List (Addr × Obj)} {σ : St} {H : Hp} {s : Shared} {R : It → Hp → Prop} {E : Value → Shared → Prop} {lo hi : Int} {t u v : Tok} {tk : Nat} (I : Inv X pins σ H s) (h1 : -(2 ^ 62) ≤ lo) (h2 : lo < 2 ^ 62) (h3 : -(2 ^ 62) ≤ hi) (h4 : hi < 2 ^ 62)
    (q : R (Itr lo (hi - lo).toNat) H) : wpAny (model X.prog X.w) X.A (pyIter (.ref s.heap.objs.size)) (PIE X pins σ tg R) E { s with heap := s.heap.push { cls := .type "range", data := .fields #[.int lo t, .int hi u, .int 1 v] }, toks := tk } := by
  refine wpAny_pyIter_range (IsRange.new ..) (small_one h1 h2 h3 h4) ?_
  have I1 : Inv X pins σ H { s with heap := s.heap.push { cls := .type "range", data := .fields #[.int lo t, .int hi u, .int 1 v] }, toks := tk } := I.kept fun b o e => Heap.get?_push_of_some _ e
  refine ⟨(s.heap.push { cls := .type "range", data := .fields #[.int lo t, .int hi u, .int 1 v] }).objs.size, [(s.heap.push { cls := .type "range", data := .fields #[.int lo t, .int hi u, .int 1 v] }).objs.size], _, _, H, rfl,
    I1.kept (t' := tk) fun b o e => Heap.get?_push_of_some _ e, XZ _ lo (hi - lo).toNat, ?_, fun b hb => ?_, q⟩
  · have e1 : lo + ((0 : Nat) : Int) * 1 = lo := by simp
    have e2 : (((hi - lo).toNat : Nat) : Int) - ((0 : Nat) : Int) = Builtin.Range.rangeSize lo hi 1 := by rw [rangeSize_one]; split <;> omega
    show IsRangeIter _ _ (lo + ((0 : Nat) : Int) * 1) ((((hi - lo).toNat : Nat) : Int) - ((0 : Nat) : Int)) 1
    rw [e1, e2]
    exact Heap.get?_push_size _ rfl
  · have e : b = (s.heap.push { cls := .type "range", data := .fields #[.int lo t, .int hi u, .int 1 v] }).objs.size := by simpa using hb
    subst e
    exact I1.fpOk (Nat.le_refl _) (I1.hok.fresh (Nat.le_refl _))
noncomputable def JU (ta : TA) : TI := fun σ H R => ta σ H fun vs H1 => ∃ j : Int, vs = [.int j] ∧ -(2 ^ 62) ≤ j ∧ j < 2 ^ 62 ∧ R (Itr 0 j.toNat) H1
noncomputable def JV (ta : TA) : TI := fun σ H R => ta σ H fun vs H1 => ∃ i j : Int, vs = [.int i, .int j] ∧ (-(2 ^ 62) ≤ i ∧ i < 2 ^ 62 ∧ -(2 ^ 62) ≤ j ∧ j < 2 ^ 62) ∧ R (Itr i (j - i).toNat) H1
theorem va {a : Expr} {ta : TA} {p pos : Pos} (hg : Gl X "range") (hm : X.mg "range" = none) (ha : PA X [a] ta) (hs : starEach [a] X.env = [(false, eval a X.env)] := by rfl) : PI X tg (.Call (.Name "range" p) [a] [] pos) (JU ta) := by
  intro pins s σ H R I h
  refine Call_ (x8 I hg hm boot_range (PyProof.Rows.callWith_type1 (thn (ha pos pins s σ H _ I h) fun us s1 ⟨vs, H1, I1, r1, q1⟩ => ?_) hs rfl))
  obtain ⟨j, e, q1, q2, q⟩ := q1
  subst e
  cases r1 with
  | cons r rr =>
    cases rr
    obtain ⟨t, rfl⟩ := r
    exact call_range_1 (ZB I1 (by omega) (by omega) q1 q2 (by simpa using q))
theorem kG {a b : Expr} {ta : TA} {p pos : Pos} (hg : Gl X "range") (hm : X.mg "range" = none) (ha : PA X [a, b] ta) (hs : starEach [a, b] X.env = [(false, eval a X.env), (false, eval b X.env)] := by rfl) (hs2 : starEach [b] X.env = [(false, eval b X.env)] := by rfl) :
    PI X tg (.Call (.Name "range" p) [a, b] [] pos) (JV ta) := by
  intro pins s σ H R I h
  refine Call_ (x8 I hg hm boot_range (PyProof.Rows.callWith_type1 (thn (ha pos pins s σ H _ I h) fun us s1 ⟨vs, H1, I1, r1, q1⟩ => ?_) (by rw [hs, hs2]) (by rw [hs2]; rfl)))
  obtain ⟨i, j, e, ⟨q1, q2, q3, q4⟩, q⟩ := q1
  subst e
  cases r1 with
  | cons r rr =>
    cases rr with
    | cons r' rr =>
      cases rr
      obtain ⟨t, rfl⟩ := r
      obtain ⟨t', rfl⟩ := r'
      exact call_range_2 (ZB I1 q1 q2 q3 q4 q)
noncomputable def zbk (wi : TI) (g : TG) (tb : TS) : TS := fun D σ H => wi σ H fun J H1 => ∃ W : Nat → Nat → St → Hp → Prop, (∃ m, W 0 m σ H1) ∧ ∀ i m σ H, W i m σ H →
  (J.stop i H ∧ D.nx σ H) ∨ (J.go i H ∧ ∃ N : St → Hp → Prop, (∀ σ' H', N σ' H' → ∃ m', m' < m ∧ W (i + 1) m' σ' H') ∧ ∀ x H', J.yld i H x H' → g x σ H' fun σ2 H2 => tb { D with nx := N, ct := N, bk := D.nx } σ2 H2)
noncomputable def uU (fp : List Addr) (h : Heap) : List (Addr × Obj) := fp.filterMap fun b => (h.get? b).map fun o => (b, o)
theorem vo {fp : List Addr} {h : Heap} {b : Addr} {o : Obj} (hb : b ∈ fp) (e : h.get? b = some o) : (b, o) ∈ uU fp h := List.mem_filterMap.mpr ⟨b, hb, by rw [e]; rfl⟩
theorem V9 {fp : List Addr} {h : Heap} {p : Addr × Obj} (hp : p ∈ uU fp h) : p.1 ∈ fp ∧ h.get? p.1 = some p.2 := by
  obtain ⟨b, hb, e⟩ := List.mem_filterMap.mp hp
  cases q : h.get? b with
  | none => rw [q] at e; cases e
  | some o =>
    rw [q] at e
    have e' : (b, o) = p := Option.some.inj e
    subst e'
    exact ⟨hb, q⟩
theorem Inv.pinned {pins : List (Addr × Obj)} {σ : St} {H : Hp} {s : Shared} {fp : List Addr} (I : Inv X pins σ H s) (hf : ∀ b ∈ fp, FpOk X pins H b) (ho : ∀ b ∈ fp, ∃ o, s.heap.get? b = some o ∧ ∀ v, o.data ≠ .cell v) : Inv X (pins ++ uU fp s.heap) σ H s :=
  I.pins_of fun p hp => (List.mem_append.mp hp).elim (fun z => I.pin p (List.mem_append_right _ z)) fun z => by
    obtain ⟨hb, e⟩ := V9 z
    obtain ⟨f0, f1, f2, _⟩ := hf p.1 hb
    obtain ⟨o, e', d⟩ := ho p.1 hb
    rw [e] at e'; cases e'
    exact ⟨e, f0, f1, f2, d⟩
theorem Inv.unpinned {pins pl : List (Addr × Obj)} {σ : St} {H : Hp} {s : Shared} (I : Inv X (pins ++ pl) σ H s) : Inv X pins σ H s := I.pins_of fun p hp => I.pin p (List.mem_append_right _ (List.mem_append_left _ hp))
theorem yG {iter : Expr} {body : List Stmt} {wi : TI} {g : TG} {tb : TS} {pos : Pos} (hp : PassesOwn (model X.prog X.w) X.A X.env X.xe) (hc : X.calm = true) (hi : PI X tg iter wi) (hg : PG X tg g) (hb : PSs X body tb)
    (hs : ∀ x, foldedSetIterable iter X.env x = pure x := by intro _; rfl) : PS X (.For tg iter body [] pos) (zbk wi g tb) := by
  intro pins s σ H D I h
  refine wpAny_For (thn (hi pins s σ H _ I h) fun v s1 h1 => thn h1 fun itv s2 h2 => ?_) hs
  obtain ⟨it, fp, tn, J, H2, e, I2, T, st2, f2, W, ⟨m0, w0⟩, turn⟩ := h2
  subst e
  have stat : ∀ {H' : Hp}, (∀ b ∈ fp, H' b = none) → ∀ b ∈ fp, FpOk X pins H' b := fun hn b hb => ⟨hn b hb, (f2 b hb).2⟩
  refine codeAny_forLoop_any (fun n s' => ∃ i σ' H', Inv X pins σ' H' s' ∧ tn i s'.heap ∧ (∀ b ∈ fp, H' b = none) ∧ W i n σ' H') ?_ m0 ⟨0, σ, H2, I2, st2, fun b hb => (f2 b hb).1, w0⟩
  rintro n s3 ⟨i, σ3, H3, I3, st3, fr3, w3⟩
  rcases turn i n σ3 H3 w3 with ⟨stop, qn⟩ | ⟨go, N, hN, step⟩
  · refine wpAny_passesOwn hp (thn (T.done X rfl rfl rfl hc i pins s3 σ3 H3 X.xe I3 (stat fr3) st3 stop) fun r s4 ⟨hr, I4⟩ => ?_)
    subst hr
    exact wpAny_execs_nil ⟨σ3, H3, I4, qn⟩
  · refine wpAny_passesOwn hp (thn (T.item X rfl rfl rfl hc i pins s3 σ3 H3 X.xe I3 (stat fr3) st3 go) fun r s4 ⟨u, hr, h4⟩ => ?_)
    subst hr
    refine wpAny_passesOwn hp (thn h4 fun _ s5 ⟨x, H5, I5, r5, y5, st5, fr5⟩ => ?_)
    have I5' := I5.pinned (stat fr5) (T.obj _ _ st5)
    refine wpAny_passesOwn hp (thn (hg _ s5 σ3 H5 x u _ I5' r5 (step x H5 y5)) fun _ s6 ⟨σ6, H6, I6, q6⟩ => ?_)
    refine wpAny_passesOwn hp (thn (hb _ s6 σ6 H6 _ I6 q6) fun f s7 q7 => ?_)
    have again : ∀ {σ7 : St} {H7 : Hp}, Inv X (pins ++ uU fp s5.heap) σ7 H7 s7 → N σ7 H7 → ∃ m, m < n ∧ ∃ i σ' H', Inv X pins σ' H' s7 ∧ tn i s7.heap ∧ (∀ b ∈ fp, H' b = none) ∧ W i m σ' H' := fun {σ7 H7} I7 n7 => by
      obtain ⟨m', hm, w7⟩ := hN σ7 H7 n7
      refine ⟨m', hm, i + 1, σ7, H7, I7.unpinned, T.keep _ _ _ st5 fun b hb o e => (I7.pin (b, o) (List.mem_append_right _ (List.mem_append_right _ (vo hb e)))).1, fun b hb => ?_, w7⟩
      obtain ⟨o, e, d⟩ := T.obj _ _ st5 b hb
      exact (I7.pin (b, o) (List.mem_append_right _ (List.mem_append_right _ (vo hb e)))).2.1
    cases f with
    | next => obtain ⟨σ7, H7, I7, n7⟩ := q7; exact again I7 n7
    | cont => obtain ⟨σ7, H7, I7, n7⟩ := q7; exact again I7 n7
    | brk => obtain ⟨σ7, H7, I7, q7⟩ := q7; exact ⟨σ7, H7, I7.unpinned, q7⟩
    | ret v => obtain ⟨x7, σ7, H7, I7, r7, q7⟩ := q7; exact ⟨x7, σ7, H7, I7.unpinned, r7, q7⟩
end
theorem QE {K : PySem.W.Frag} {a : Addr} {xs : List V} {g : TG} {tb : TS} {D : Ends} {σ : St} {H : Hp} (Pv : Nat → St → Hp → Prop) (h0 : Pv 0 σ H) (hl : ∀ i σ H, i ≤ xs.length → Pv i σ H → SqL K H a xs)
    (hs : ∀ i x σ H, xs[i]? = some x → Pv i σ H → g x σ H fun σ2 H2 => tb { D with nx := Pv (i + 1), ct := Pv (i + 1), bk := D.nx } σ2 H2) (hd : ∀ σ H, Pv xs.length σ H → D.nx σ H) :
    ∃ W : Nat → Nat → St → Hp → Prop, (∃ m, W 0 m σ H) ∧ ∀ i m σ H, W i m σ H →
      ((Itl K a).stop i H ∧ D.nx σ H) ∨ ((Itl K a).go i H ∧ ∃ N : St → Hp → Prop, (∀ σ' H', N σ' H' → ∃ m', m' < m ∧ W (i + 1) m' σ' H') ∧ ∀ x H', (Itl K a).yld i H x H' → g x σ H' fun σ2 H2 => tb { D with nx := N, ct := N, bk := D.nx } σ2 H2) := by
  refine ⟨fun i m σ H => m = xs.length - i ∧ i ≤ xs.length ∧ Pv i σ H, ⟨xs.length, by simp, Nat.zero_le _, h0⟩, ?_⟩
  rintro i m σ H ⟨rfl, hi, p⟩
  have q := hl i σ H hi p
  by_cases hlt : i < xs.length
  · refine .inr ⟨⟨xs, xs[i], q, by simp [hlt]⟩, Pv (i + 1), fun σ' H' p' => ⟨xs.length - (i + 1), by omega, rfl, hlt, p'⟩, fun x H' y => ?_⟩
    obtain ⟨e, y⟩ := y
    subst e
    exact hs i x σ _ (y xs q) p
  · have e : i = xs.length := by omega
    subst e
    exact .inl ⟨⟨xs, q, Nat.le_refl _⟩, hd σ H p⟩
theorem KS {K : PySem.W.Frag} {a : Addr} {xs : List V} {g : TG} {tb : TS} {D : Ends} {σ : St} {H : Hp} (Pv : Nat → St → Hp → Prop) (h0 : Pv 0 σ H) (hl : ∀ i σ H, i ≤ xs.length → Pv i σ H → SqT K H a xs)
    (hs : ∀ i x σ H, xs[i]? = some x → Pv i σ H → g x σ H fun σ2 H2 => tb { D with nx := Pv (i + 1), ct := Pv (i + 1), bk := D.nx } σ2 H2) (hd : ∀ σ H, Pv xs.length σ H → D.nx σ H) :
    ∃ W : Nat → Nat → St → Hp → Prop, (∃ m, W 0 m σ H) ∧ ∀ i m σ H, W i m σ H →
      ((Itt K a).stop i H ∧ D.nx σ H) ∨ ((Itt K a).go i H ∧ ∃ N : St → Hp → Prop, (∀ σ' H', N σ' H' → ∃ m', m' < m ∧ W (i + 1) m' σ' H') ∧ ∀ x H', (Itt K a).yld i H x H' → g x σ H' fun σ2 H2 => tb { D with nx := N, ct := N, bk := D.nx } σ2 H2) := by
  refine ⟨fun i m σ H => m = xs.length - i ∧ i ≤ xs.length ∧ Pv i σ H, ⟨xs.length, by simp, Nat.zero_le _, h0⟩, ?_⟩
  rintro i m σ H ⟨rfl, hi, p⟩
  have q := hl i σ H hi p
  by_cases hlt : i < xs.length
  · refine .inr ⟨⟨xs, xs[i], q, by simp [hlt]⟩, Pv (i + 1), fun σ' H' p' => ⟨xs.length - (i + 1), by omega, rfl, hlt, p'⟩, fun x H' y => ?_⟩
    obtain ⟨e, y⟩ := y
    subst e
    exact hs i x σ _ (y xs q) p
  · have e : i = xs.length := by omega
    subst e
    exact .inl ⟨⟨xs, q, Nat.le_refl _⟩, hd σ H p⟩
theorem Ua {lo : Int} {n : Nat} {g : TG} {tb : TS} {D : Ends} {σ : St} {H : Hp} (Pv : Nat → St → Hp → Prop) (h0 : Pv 0 σ H)
    (hs : ∀ i σ H, i < n → Pv i σ H → g (.int (lo + i)) σ H fun σ2 H2 => tb { D with nx := Pv (i + 1), ct := Pv (i + 1), bk := D.nx } σ2 H2) (hd : ∀ σ H, Pv n σ H → D.nx σ H) :
    ∃ W : Nat → Nat → St → Hp → Prop, (∃ m, W 0 m σ H) ∧ ∀ i m σ H, W i m σ H →
      ((Itr lo n).stop i H ∧ D.nx σ H) ∨ ((Itr lo n).go i H ∧ ∃ N : St → Hp → Prop, (∀ σ' H', N σ' H' → ∃ m', m' < m ∧ W (i + 1) m' σ' H') ∧ ∀ x H', (Itr lo n).yld i H x H' → g x σ H' fun σ2 H2 => tb { D with nx := N, ct := N, bk := D.nx } σ2 H2) := by
  refine ⟨fun i m σ H => m = n - i ∧ i ≤ n ∧ Pv i σ H, ⟨n, by simp, Nat.zero_le _, h0⟩, ?_⟩
  rintro i m σ H ⟨rfl, hi, p⟩
  by_cases hlt : i < n
  · refine .inr ⟨hlt, Pv (i + 1), fun σ' H' p' => ⟨n - (i + 1), by omega, rfl, hlt, p'⟩, fun x H' y => ?_⟩
    obtain ⟨e, y⟩ := y
    subst e y
    exact hs i σ _ hlt p
  · have e : i = n := by omega
    subst e
    exact .inl ⟨Nat.le_refl _, hd σ H p⟩
end L2
namespace L2
open PySem PySem.Spec PyProof.Rows
noncomputable abbrev R2 := V → V → Hp → VK → Prop
noncomputable def OpR (X : Cx) (f : Value → Value → Sem Value) (r : R2) : Prop :=
  ∀ (pins : List (Addr × Obj)) (s : Shared) (σ : St) (H : Hp) (x y : V) (v u : Value) (Q : VK), Inv X pins σ H s → RelV x v → RelV y u → r x y H Q →
    wpAny (model X.prog X.w) X.A (f v u) (EP X pins σ Q) X.xe s
noncomputable def UnR (X : Cx) (f : Value → Sem Value) (r : V → Hp → VK → Prop) : Prop :=
  ∀ (pins : List (Addr × Obj)) (s : Shared) (σ : St) (H : Hp) (x : V) (v : Value) (Q : VK), Inv X pins σ H s → RelV x v → r x H Q →
    wpAny (model X.prog X.w) X.A (f v) (EP X pins σ Q) X.xe s
noncomputable def zJ (X : Cx) (f : Value) (r : List V → Hp → VK → Prop) : Prop :=
  ∀ (pins : List (Addr × Obj)) (s : Shared) (σ : St) (H : Hp) (xs : List V) (us : List Value) (Q : VK), Inv X pins σ H s → Vals xs us → r xs H Q →
    wpAny (model X.prog X.w) X.A (call f us) (EP X pins σ Q) X.xe s
noncomputable def zdn (X : Cx) (r : V → Hp → (Bool → Hp → Prop) → Prop) : Prop :=
  ∀ (pins : List (Addr × Obj)) (s : Shared) (σ : St) (H : Hp) (x : V) (v : Value) (Q : Bool → Hp → Prop), Inv X pins σ H s → RelV x v → r x H Q →
    wpAny (model X.prog X.w) X.A (truthy v) (TP X pins σ Q) X.xe s
noncomputable def tOp (r : R2) (ta tb : TE) : TE := fun σ H Q => ta σ H fun x H1 => tb σ H1 fun y H2 => r x y H2 Q
noncomputable def tUn (r : V → Hp → VK → Prop) (ta : TE) : TE := fun σ H Q => ta σ H fun x H1 => r x H1 Q
noncomputable def rI (C : Int → Int → Prop) (g : Int → Int → V) : R2 := fun x y H Q => ∃ i j, x = .int i ∧ y = .int j ∧ C i j ∧ Q (g i j) H
noncomputable def rI0 (g : Int → Int → V) : R2 := fun x y H Q => ∃ i j, x = .int i ∧ y = .int j ∧ Q (g i j) H
noncomputable def rU (g : Int → V) : V → Hp → VK → Prop := fun x H Q => ∃ i, x = .int i ∧ Q (g i) H
section
variable {X : Cx} {a b c : Expr} {ta tb tc : TE} {pos : Pos}
theorem QF (ha : PE X a ta) (hb : PE X b tb) {pins : List (Addr × Obj)} {s : Shared} {σ : St} {H : Hp} {R : V → V → Hp → Prop} (I : Inv X pins σ H s)
    (h : ta σ H fun x H1 => tb σ H1 fun y H2 => R x y H2) {Q : Value → Shared → Prop} {f : Value → Value → Sem Value}
    (hf : ∀ v u s2 x y H2, Inv X pins σ H2 s2 → RelV x v → RelV y u → R x y H2 → wpAny (model X.prog X.w) X.A (f v u) Q X.xe s2) :
    wpAny (model X.prog X.w) X.A (eval a X.env) (fun v s₁ => wpAny (model X.prog X.w) X.A (eval b X.env) (fun u s₂ => wpAny (model X.prog X.w) X.A (f v u) Q X.xe s₂) X.xe s₁) X.xe s := by
  refine thn (ha pins s σ H _ I h) fun v s1 ⟨x, H1, I1, r1, q1⟩ => ?_
  refine thn (hb pins s1 σ H1 _ I1 q1) fun u s2 ⟨y, H2, I2, r2, q2⟩ => ?_
  exact hf v u s2 x y H2 I2 r1 r2 q2
theorem ze {op : Operator} {r : R2} (ho : OpR X (binaryOp op) r) (ha : PE X a ta) (hb : PE X b tb) : PE X (.BinOp a op b pos) (tOp r ta tb) := by
  intro pins s σ H Q I h
  exact wpAny_BinOp (QF ha hb I h fun v u s2 x y H2 I2 rx ry q => ho pins s2 σ H2 x y v u Q I2 rx ry q)
theorem JW {op : UnaryOp} {r : V → Hp → VK → Prop} (ho : UnR X (unaryOp op) r) (ha : PE X a ta) : PE X (.UnaryOp op a pos) (tUn r ta) := by
  intro pins s σ H Q I h
  exact UnaryOp_ (thn (ha pins s σ H _ I h) fun v s1 ⟨x, H1, I1, r1, q1⟩ => ho pins s1 σ H1 x v Q I1 r1 q1)
theorem opI {f : Value → Value → Sem Value} {C : Int → Int → Prop} {g : Int → Int → Int}
    (rule : ∀ (i j : Int) (t u : Tok) (s : Shared) (Q : Value → Shared → Prop) (E : Value → Shared → Prop), C i j → Q (.int (g i j) s.toks) { s with toks := s.toks + 1 } → wpAny (model X.prog X.w) X.A (f (.int i t) (.int j u)) Q E s) :
    OpR X f (rI C fun i j => .int (g i j)) := by
  intro pins s σ H x y v u Q I rx ry h
  obtain ⟨i, j, rfl, rfl, hc, q⟩ := h
  obtain ⟨t, rfl⟩ := rx
  obtain ⟨t', rfl⟩ := ry
  exact rule i j t t' s _ _ hc ⟨.int (g i j), H, I.tok _, ⟨_, rfl⟩, q⟩
theorem X1 {f : Value → Value → Sem Value} {g : Int → Int → Int}
    (rule : ∀ (i j : Int) (t u : Tok) (s : Shared) (Q : Value → Shared → Prop) (E : Value → Shared → Prop), Q (.int (g i j) s.toks) { s with toks := s.toks + 1 } → wpAny (model X.prog X.w) X.A (f (.int i t) (.int j u)) Q E s) :
    OpR X f (rI0 fun i j => .int (g i j)) := by
  intro pins s σ H x y v u Q I rx ry h
  obtain ⟨i, j, rfl, rfl, q⟩ := h
  obtain ⟨t, rfl⟩ := rx
  obtain ⟨t', rfl⟩ := ry
  exact rule i j t t' s _ _ ⟨.int (g i j), H, I.tok _, ⟨_, rfl⟩, q⟩
theorem QG {f : Value → Value → Sem Value} {g : Int → Int → Bool}
    (rule : ∀ (i j : Int) (t u : Tok) (s : Shared) (Q : Value → Shared → Prop) (E : Value → Shared → Prop), Q (.bool (g i j)) s → wpAny (model X.prog X.w) X.A (f (.int i t) (.int j u)) Q E s) :
    OpR X f (rI0 fun i j => .bl (g i j)) := by
  intro pins s σ H x y v u Q I rx ry h
  obtain ⟨i, j, rfl, rfl, q⟩ := h
  obtain ⟨t, rfl⟩ := rx
  obtain ⟨t', rfl⟩ := ry
  exact rule i j t t' s _ _ ⟨.bl (g i j), H, I, rfl, q⟩
noncomputable def zbl (i j : Int) : Prop := 0 < j ∧ j < 1073741824
noncomputable def j4 (i j : Int) : Prop := (-(2 ^ 64) < i ∧ i < 2 ^ 64) ∨ (-(2 ^ 64) < j ∧ j < 2 ^ 64)
theorem j4.ok {i j : Int} (h : j4 i j) : IntMulOk i j := by
  rcases h with ⟨h1, h2⟩ | ⟨h1, h2⟩
  · exact .of_left (intBits_le_64 h1 h2)
  · exact .of_right (intBits_le_64 h1 h2)
theorem X2 (k : Nat) : (0 : Int) ≤ 2 ^ k := by
  rw [two_pow_cast]
  exact Int.natCast_nonneg _
theorem zE : OpR X (binaryOp .Add) (rI0 fun i j => .int (i + j)) := X1 fun _ _ _ _ _ _ _ q => add_int q
theorem Ub : OpR X (binaryOp .Sub) (rI0 fun i j => .int (i - j)) := X1 fun _ _ _ _ _ _ _ q => sub_int q
theorem zO : OpR X (binaryOp .FloorDiv) (rI zbl fun i j => .int (i / j)) := opI fun i j _ _ _ _ _ hc q => by
  have h1 : (0 : Int) < j := hc.1
  have h2 : j < 1073741824 := hc.2
  exact floordiv_int (by omega) (by rw [Int.fdiv_eq_ediv_of_nonneg i (by omega)]; exact q) (.inl (PyProof.noPylong_small (by omega)))
theorem zz : OpR X (binaryOp .Mod) (rI (fun _ j => 0 < j) fun i j => .int (i % j)) := opI fun i j _ _ _ _ _ hc q => by
  have h1 : (0 : Int) < j := hc
  exact mod_int' (by omega) (by rw [Int.fmod_eq_emod_of_nonneg i (by omega)]; exact q)
theorem zbm : OpR X (binaryOp .RShift) (rI (fun _ j => 0 ≤ j) fun i j => .int (i / 2 ^ j.toNat)) := opI fun i j _ _ _ _ _ hc q =>
  rshift_int hc (by rw [Int.fdiv_eq_ediv_of_nonneg i (X2 _)]; exact q)
theorem ZC : OpR X (binaryOp .BitAnd) (rI0 fun i j => .int (Builtin.bitAnd i j)) := X1 fun _ _ _ _ _ _ _ q => and_int q
theorem JX : OpR X (binaryOp .BitOr) (rI0 fun i j => .int (Builtin.bitOr i j)) := X1 fun _ _ _ _ _ _ _ q => or_int q
theorem unI {f : Value → Sem Value} {g : Int → Int}
    (rule : ∀ (i : Int) (t : Tok) (s : Shared) (Q : Value → Shared → Prop) (E : Value → Shared → Prop), Q (.int (g i) s.toks) { s with toks := s.toks + 1 } → wpAny (model X.prog X.w) X.A (f (.int i t)) Q E s) :
    UnR X f (rU fun i => .int (g i)) := by
  intro pins s σ H x v Q I rx h
  obtain ⟨i, rfl, q⟩ := h
  obtain ⟨t, rfl⟩ := rx
  exact rule i t s _ _ ⟨.int (g i), H, I.tok _, ⟨_, rfl⟩, q⟩
theorem Uc : UnR X (unaryOp .USub) (rU fun i => .int (-i)) := unI fun _ _ _ _ _ q => neg_int q
end
noncomputable def uV : V → V → Bool
  | .non, .non => true | .non, .int _ => true | .int _, .non => true | .non, .bl _ => true | .bl _, .non => true | .non, .str _ => true | .str _, .non => true
  | .int _, .int _ => true | .bl _, .bl _ => true | .str _, .str _ => true | .byt _, .byt _ => true
  | .int _, .str _ => true | .str _, .int _ => true | .bl _, .str _ => true | .str _, .bl _ => true
  | _, _ => false
noncomputable def rEq : R2 := fun x y H Q => uV x y = true ∧ Q (.bl (decide (x = y))) H
noncomputable def rNe : R2 := fun x y H Q => uV x y = true ∧ Q (.bl (!decide (x = y))) H
theorem Xe {i j : Int} : decide (V.int i = V.int j) = (i == j) := by
  rw [Bool.eq_iff_iff]
  simp
theorem Ud {i j : Bool} : decide (V.bl i = V.bl j) = (i == j) := by
  rw [Bool.eq_iff_iff]
  simp
theorem Xf {i j : Str} : decide (V.str i = V.str j) = (i == j) := by
  rw [Bool.eq_iff_iff]
  simp
theorem Xg {i j : Array UInt8} : decide (V.byt i = V.byt j) = (i.toList == j.toList) := by
  rw [Bool.eq_iff_iff]
  cases i
  cases j
  simp
section
variable {X : Cx} {a b c : Expr} {ta tb tc : TE} {pos : Pos}
theorem zA {pins : List (Addr × Obj)} {σ : St} {H : Hp} {s : Shared} {Q : VK} {k k' : Bool} (I : Inv X pins σ H s) (q : Q (.bl k) H) (e : k = k') : EP X pins σ Q (.bool k') s := by
  subst e
  exact ⟨.bl k, H, I, rfl, q⟩
theorem xq : OpR X (compareOp .Eq) rEq := by
  intro pins s σ H x y v u Q I rx ry h
  obtain ⟨hs, q⟩ := h
  cases x with
  | non =>
    cases rx
    cases y with
    | non => cases ry; exact PySem.EqNone.eq_none_none (zA I q (by simp))
    | bl j => cases ry; exact PySem.EqNone.eq_none_bool (zA I q (by simp))
    | int j => obtain ⟨t', rfl⟩ := ry; exact PySem.EqNone.eq_none_int (zA I q (by simp))
    | str j => obtain ⟨t', rfl⟩ := ry; exact PySem.EqNone.eq_none_str (zA I q (by simp))
    | _ => exact absurd (show false = true from hs) Bool.false_ne_true
  | bl i =>
    cases rx
    cases y with
    | non => cases ry; exact PySem.EqNone.eq_bool_none (zA I q (by simp))
    | bl j => cases ry; exact eq_bool (zA I q Ud)
    | str j => obtain ⟨t', rfl⟩ := ry; exact PySem.EqMixed.eq_bool_str (zA I q (by simp))
    | _ => exact absurd (show false = true from hs) Bool.false_ne_true
  | int i =>
    obtain ⟨t, rfl⟩ := rx
    cases y with
    | non => cases ry; exact PySem.EqNone.eq_int_none (zA I q (by simp))
    | int j => obtain ⟨t', rfl⟩ := ry; exact eq_int (zA I q Xe)
    | str j => obtain ⟨t', rfl⟩ := ry; exact PySem.EqMixed.eq_int_str (zA I q (by simp))
    | _ => exact absurd (show false = true from hs) Bool.false_ne_true
  | str i =>
    obtain ⟨t, rfl⟩ := rx
    cases y with
    | non => cases ry; exact PySem.EqNone.eq_str_none (zA I q (by simp))
    | bl j => cases ry; exact PySem.EqMixed.eq_str_bool (zA I q (by simp))
    | int j => obtain ⟨t', rfl⟩ := ry; exact PySem.EqMixed.eq_str_int (zA I q (by simp))
    | str j => obtain ⟨t', rfl⟩ := ry; exact eq_str (zA I q Xf)
    | _ => exact absurd (show false = true from hs) Bool.false_ne_true
  | byt i =>
    obtain ⟨t, rfl⟩ := rx
    cases y with
    | byt j => obtain ⟨t', rfl⟩ := ry; exact PySem.W.eq_bytes (zA I q Xg)
    | _ => exact absurd (show false = true from hs) Bool.false_ne_true
  | _ => cases y <;> exact absurd (show false = true from hs) Bool.false_ne_true
theorem vp : OpR X (compareOp .NotEq) rNe := by
  intro pins s σ H x y v u Q I rx ry h
  obtain ⟨hs, q⟩ := h
  cases x with
  | non =>
    cases rx
    cases y with
    | non => cases ry; exact PySem.EqNone.ne_none_none (zA I q (by simp))
    | bl j => cases ry; exact PySem.EqNone.ne_none_bool (zA I q (by simp))
    | int j => obtain ⟨t', rfl⟩ := ry; exact PySem.EqNone.ne_none_int (zA I q (by simp))
    | str j => obtain ⟨t', rfl⟩ := ry; exact PySem.EqNone.ne_none_str (zA I q (by simp))
    | _ => exact absurd (show false = true from hs) Bool.false_ne_true
  | bl i =>
    cases rx
    cases y with
    | non => cases ry; exact PySem.EqNone.ne_bool_none (zA I q (by simp))
    | bl j => cases ry; exact ne_bool (zA I q (congrArg not Ud))
    | str j => obtain ⟨t', rfl⟩ := ry; exact PySem.EqMixed.ne_bool_str (zA I q (by simp))
    | _ => exact absurd (show false = true from hs) Bool.false_ne_true
  | int i =>
    obtain ⟨t, rfl⟩ := rx
    cases y with
    | non => cases ry; exact PySem.EqNone.ne_int_none (zA I q (by simp))
    | int j => obtain ⟨t', rfl⟩ := ry; exact ne_int (zA I q (congrArg not Xe))
    | str j => obtain ⟨t', rfl⟩ := ry; exact PySem.EqMixed.ne_int_str (zA I q (by simp))
    | _ => exact absurd (show false = true from hs) Bool.false_ne_true
  | str i =>
    obtain ⟨t, rfl⟩ := rx
    cases y with
    | non => cases ry; exact PySem.EqNone.ne_str_none (zA I q (by simp))
    | bl j => cases ry; exact PySem.EqMixed.ne_str_bool (zA I q (by simp))
    | int j => obtain ⟨t', rfl⟩ := ry; exact PySem.EqMixed.ne_str_int (zA I q (by simp))
    | str j => obtain ⟨t', rfl⟩ := ry; exact ne_str (zA I q (congrArg not Xf))
    | _ => exact absurd (show false = true from hs) Bool.false_ne_true
  | byt i =>
    obtain ⟨t, rfl⟩ := rx
    cases y with
    | byt j => obtain ⟨t', rfl⟩ := ry; exact PySem.W.ne_bytes (zA I q (congrArg not Xg))
    | _ => exact absurd (show false = true from hs) Bool.false_ne_true
  | _ => cases y <;> exact absurd (show false = true from hs) Bool.false_ne_true
theorem JY : OpR X (compareOp .Lt) (rI0 fun i j => .bl (decide (i < j))) := QG fun _ _ _ _ _ _ _ q => lt_int q
theorem JZ : OpR X (compareOp .LtE) (rI0 fun i j => .bl (decide (i ≤ j))) := QG fun _ _ _ _ _ _ _ q => le_int q
theorem Zj : OpR X (compareOp .Gt) (rI0 fun i j => .bl (decide (j < i))) := QG fun _ _ _ _ _ _ _ q => gt_int q
theorem OpR.or {f : Value → Value → Sem Value} {r r' : R2} (h : OpR X f r) (h' : OpR X f r') : OpR X f (fun x y H Q => r x y H Q ∨ r' x y H Q) := by
  intro pins s σ H x y v u Q I rx ry q
  rcases q with q | q
  · exact h pins s σ H x y v u Q I rx ry q
  · exact h' pins s σ H x y v u Q I rx ry q
theorem zD (b : Expr) {op : CmpOp} (h : op ≠ .In := by decide) (h2 : op ≠ .NotIn := by decide) : behindInMarks op b = false := by
  have e1 : (op == CmpOp.In) = false := by cases op <;> first | rfl | exact absurd rfl h
  have e2 : (op == CmpOp.NotIn) = false := by cases op <;> first | rfl | exact absurd rfl h2
  cases b <;> simp [behindInMarks, e1, e2]
theorem qu {op : CmpOp} {r : R2} (ho : OpR X (compareOp op) r) (ha : PE X a ta) (hb : PE X b tb) (hm : behindInMarks op b = false) : PE X (.Compare a [op] [b] pos) (tOp r ta tb) := by
  intro pins s σ H Q I h
  exact wpAny_Compare1 (QF ha hb I h fun v u s2 x y H2 I2 rx ry q => ho pins s2 σ H2 x y v u Q I2 rx ry q) hm
noncomputable def X3 (t : TE) : TT := fun σ H Q => t σ H fun x H' => ∃ k, x = .bl k ∧ Q k H'
theorem zx {op : CmpOp} {r : R2} (ho : OpR X (compareOp op) r) (ha : PE X a ta) (hb : PE X b tb) (hm : behindInMarks op b = false) : PT X (.Compare a [op] [b] pos) (X3 (tOp r ta tb)) := by
  intro pins s σ H Q I h
  refine wpAny_isTrue_Compare1 (thn (ha pins s σ H _ I h) fun v s1 ⟨x, H1, I1, r1, q1⟩ => thn (hb pins s1 σ H1 _ I1 q1) fun u s2 ⟨y, H2, I2, r2, q2⟩ =>
    thn (ho pins s2 σ H2 x y v u _ I2 r1 r2 q2) fun c s3 ⟨z, H3, I3, r3, k, e, q3⟩ => ?_) hm
  subst e
  cases r3
  exact wpAny_truthy_bool ⟨H3, I3, q3⟩
noncomputable def ZD (r r' : R2) (ta tb tc : TE) : TE := fun σ H Q => ta σ H fun x H1 => tb σ H1 fun y H2 => r x y H2 fun z H3 => ∃ k, z = .bl k ∧
  (if k = true then tc σ H3 fun w' H4 => r' y w' H4 Q else Q (.bl false) H3)
theorem ZE {op op' : CmpOp} {r r' : R2} (ho : OpR X (compareOp op) r) (ho' : OpR X (compareOp op') r') (ha : PE X a ta) (hb : PE X b tb) (hc : PE X c tc)
    (hm : lastMarks [op, op'] [b, c] = false := by with_unfolding_all rfl) : PE X (.Compare a [op, op'] [b, c] pos) (ZD r r' ta tb tc) := by
  intro pins s σ H Q I h
  refine Compare_chain (thn (ha pins s σ H _ I h) fun v s1 ⟨x, H1, I1, r1, q1⟩ => chain_link (thn (hb pins s1 σ H1 _ I1 q1) fun u s2 ⟨y, H2, I2, r2, q2⟩ =>
    thn (ho pins s2 σ H2 x y v u _ I2 r1 r2 q2) fun d s3 ⟨z, H3, I3, r3, k, e, q3⟩ => ?_)) hm
  subst e
  cases r3
  refine wpAny_truthy_bool ?_
  cases k with
  | false => exact ite_ff ⟨.bl false, H3, I3, rfl, q3⟩
  | true => exact ite_tt (chain_last (thn (hc pins s3 σ H3 _ I3 q3) fun w' s4 ⟨z', H4, I4, r4, q4⟩ => ho' pins s4 σ H4 y z' u w' Q I4 r2 r4 q4))
noncomputable def ZF (K : PySem.W.Frag) (x : V) (H : Hp) (k : Bool) : Prop :=
  match x with
  | .non => k = false
  | .bl b => k = b
  | .int i => k = (i != 0)
  | .str y => y.length ≤ sizeLine ∧ k = ((y.length : Int) != 0)
  | .byt y => y.size ≤ sizeLine ∧ k = ((y.size : Int) != 0)
  | .ref p => (∃ xs, SqL K H p xs ∧ k = !xs.isEmpty) ∨ (∃ xs, SqT K H p xs ∧ k = !xs.isEmpty) ∨ ∃ kvs, H p = some (.dK kvs) ∧ k = !kvs.isEmpty
  | _ => False
theorem X4 {κ : Type} {kvs : List (κ × V)} {vs : List (κ × Value)} (r : KV kvs vs) : (!vs.isEmpty) = !kvs.isEmpty := by
  cases r <;> rfl
theorem jr {xs : List V} {its : List Value} (r : Vals xs its) : (!its.toArray.isEmpty) = !xs.isEmpty := by
  cases r <;> simp
theorem uf : (sizeLine : Nat) < 2 ^ 63 := by rw [sizeLine_eq]; decide
theorem zbn : zdn X (fun x H Q => ∃ k, ZF X.K x H k ∧ Q k H) := by
  intro pins s σ H x v Q I rx h
  obtain ⟨k, e, q⟩ := h
  have hl := uf
  have hs : sizeLine = 16777216 := sizeLine_eq
  cases x with
  | non =>
    cases rx
    have e' : k = false := e
    subst e'
    exact truthy_none ⟨H, I, q⟩
  | bl b =>
    cases rx
    have e' : k = b := e
    subst e'
    exact wpAny_truthy_bool ⟨H, I, q⟩
  | int i =>
    obtain ⟨t, rfl⟩ := rx
    have e' : k = (i != 0) := e
    subst e'
    exact PySem.P.truthy_int ⟨H, I, q⟩
  | str y =>
    obtain ⟨t, rfl⟩ := rx
    obtain ⟨hy, e'⟩ : y.length ≤ sizeLine ∧ k = ((y.length : Int) != 0) := e
    subst e'
    exact PySem.P.truthy_str (by omega) ⟨H, I.tok _, q⟩
  | byt y =>
    obtain ⟨t, rfl⟩ := rx
    obtain ⟨hy, e'⟩ : y.size ≤ sizeLine ∧ k = ((y.size : Int) != 0) := e
    subst e'
    exact PySem.W.truthy_bytes (by omega) ⟨H, I.tok _, q⟩
  | ref p =>
    cases rx
    have e' : (∃ xs, SqL X.K H p xs ∧ k = !xs.isEmpty) ∨ (∃ xs, SqT X.K H p xs ∧ k = !xs.isEmpty) ∨ ∃ kvs, H p = some (.dK kvs) ∧ k = !kvs.isEmpty := e
    rcases e' with ⟨xs, hx, e'⟩ | ⟨xs, hx, e'⟩ | ⟨kvs, hx, e'⟩
    · subst e'
      obtain ⟨its, r, pl, hz⟩ := I.list hx
      have hlen := r.length
      exact wpAny_truthy_list pl.isList (by simp only [List.size_toArray]; omega) ⟨H, I.tok _, by rw [jr r]; exact q⟩
    · subst e'
      obtain ⟨its, r, pl, hz⟩ := I.tuple hx
      have hlen := r.length
      exact truthy_tuple pl (by simp only [List.size_toArray]; omega) ⟨H, I.tok _, by rw [jr r]; exact q⟩
    · subst e'
      obtain ⟨hz, hS, vs, r, m⟩ : kvs.length ≤ sizeLine ∧ (p == sysModules) = false ∧ ∃ vs, KV kvs vs ∧ s.heap.DictOf (jW X.prog X.w) p vs := I.hok p _ hx
      have hlen : kvs.length = vs.length := Paired.length r
      exact wpAny_truthy_dict hS m (by omega) ⟨H, I.tok _, by rw [X4 r]; exact q⟩
  | _ => exact (show False from e).elim
theorem QH (ha : PE X a ta) (he : ∀ whole, isTrue a X.env whole = (do let v ← whole; standAt a.pos; holding [v] (truthy v))) :
    PT X a (fun σ H Q => ta σ H fun x H' => ∃ k, ZF X.K x H' k ∧ Q k H') := by
  intro pins s σ H Q I h
  exact isTrue_plain (thn (ha pins s σ H _ I h) fun v s1 ⟨x, H1, I1, r1, q1⟩ => zbn pins s1 σ H1 x v Q I1 r1 q1) (he _)
theorem yo : OpR X (binaryOp .Add) (fun x y H Q => ∃ i j, x = .str i ∧ y = .str j ∧ i.length + j.length ≤ sizeLine ∧ Q (.str (i ++ j)) H) := by
  intro pins s σ H x y v u Q I rx ry h
  obtain ⟨i, j, rfl, rfl, hz, q⟩ := h
  obtain ⟨t, rfl⟩ := rx
  obtain ⟨t', rfl⟩ := ry
  exact add_str (fun t' tk => ⟨.str (i ++ j), H, I.tok _, ⟨_, rfl⟩, q⟩) hz
theorem xt {x : V} {us : List Value} (r : Vals [x] us) : ∃ u, us = [u] ∧ RelV x u := by
  cases r with
  | cons r1 r2 => cases r2; exact ⟨_, rfl, r1⟩
theorem zcS {x y : V} {us : List Value} (r : Vals [x, y] us) : ∃ u w', us = [u, w'] ∧ RelV x u ∧ RelV y w' := by
  cases r with
  | cons r1 r2 =>
    cases r2 with
    | cons r3 r4 => cases r4; exact ⟨_, _, rfl, r1, r3⟩
theorem Ue (hc : X.calm = true) : zJ X (.builtin "min") (fun xs H Q => ∃ i j, xs = [.int i, .int j] ∧ Q (.int (if j < i then j else i)) H) := by
  intro pins s σ H xs us Q I r h
  obtain ⟨i, j, rfl, q⟩ := h
  obtain ⟨u, w', rfl, ⟨t, rfl⟩, ⟨t', rfl⟩⟩ := zcS r
  refine min_two_ints (I.ok.hd hc) fun h' tk k => ⟨_, H, I.kept k, ?_, q⟩
  by_cases hj : j < i
  · rw [if_pos hj, if_pos hj]; exact ⟨_, rfl⟩
  · rw [if_neg hj, if_neg hj]; exact ⟨_, rfl⟩
theorem Uf : zJ X (.type "int") (fun xs H Q => (∃ i, xs = [.int i] ∧ Q (.int i) H) ∨ ∃ k, xs = [.bl k] ∧ Q (.int (if k then 1 else 0)) H) := by
  intro pins s σ H xs us Q I r h
  rcases h with ⟨i, rfl, q⟩ | ⟨k, rfl, q⟩
  · obtain ⟨u, rfl, t, rfl⟩ := xt r
    exact call_int_int ⟨.int i, H, I, ⟨_, rfl⟩, q⟩
  · obtain ⟨u, rfl, r1⟩ := xt r
    cases r1
    exact call_int_bool ⟨.int (if k then 1 else 0), H, I.tok _, ⟨_, rfl⟩, q⟩
theorem ZG : zJ X (.type "str") (fun xs H Q => ∃ i, xs = [.int i] ∧ i.natAbs.log2 < 1920 ∧ Q (.str (toString i)) H) := by
  intro pins s σ H xs us Q I r h
  obtain ⟨i, rfl, hz, q⟩ := h
  obtain ⟨u, rfl, t, rfl⟩ := xt r
  exact PySem.P.str_of_int hz ⟨.str _, H, I.tok _, ⟨_, rfl⟩, q⟩
theorem QI : zJ X (.builtin "ord") (fun xs H Q => ∃ x, xs = [.str x] ∧ x.length = 1 ∧ Q (.int (x.cps.getD 0 0 : Nat)) H) := by
  intro pins s σ H xs us Q I r h
  obtain ⟨x, rfl, hz, q⟩ := h
  obtain ⟨u, rfl, t, rfl⟩ := xt r
  exact ord_of_one hz ⟨.int _, H, I.tok _, ⟨_, rfl⟩, q⟩
end
end L2
namespace L2
open PySem PySem.Spec PyProof.Rows
structure ObjM (h : Heap) (x dx C : Addr) (mA : Str → Option Value) : Prop where
  obj : h.get? x = some (PySem.W.instObj C dx)
  ns : h.Ns1 dx mA
  ne : dx ≠ x
theorem Ug {h : Heap} {dx : Addr} {mA : Str → Option Value} (n : h.Ns1 dx mA) : ∃ od, h.get? dx = some od ∧ ∀ name, PySem.W.lookIn name od = some (mA name) := by
  obtain ⟨o, es, ep, ho, hd, hk, _, hm⟩ := n
  refine ⟨o, ho, fun name => ?_⟩
  have e := hm name
  unfold nsFind findBy at e
  rw [← Array.find?_toList] at e
  unfold PySem.W.lookIn
  rw [hd]
  dsimp only
  split
  · rename_i y q
    rw [q] at e
    exact congrArg some e
  · rename_i q
    rw [q] at e
    have a : es.toList.any (·.refKey) = false := by
      rw [List.any_eq_false]
      intro y hy
      obtain ⟨z, t, hkey⟩ := hk y (Array.mem_toList_iff.mp hy)
      simp [DictEntry.refKey, hkey]
    have a' : ¬ es.toList.any (·.refKey) = true := by rw [a]; exact Bool.false_ne_true
    rw [if_neg a']
    exact congrArg some e
theorem ObjM.look {h : Heap} {x dx C : Addr} {mA : Str → Option Value} (I : ObjM h x dx C mA) : ∃ od, PySem.W.InstAt h x (PySem.W.instObj C dx) C (some od) ∧ ∀ name, PySem.W.lookIn name od = some (mA name) :=
  let ⟨od, ho, hl⟩ := Ug I.ns
  ⟨od, ⟨I.obj, rfl, rfl, ho⟩, hl⟩
section
variable {prog : Program} {w : World} {A : Around} {E : Value → Shared → Prop} {s : Shared} {K : PySem.W.Frag} {x dx C f : Addr} {mA : Str → Option Value} {name : Str} {v : Value}
end
section
variable {P : Program} {w : World} {H H' : Hp} {h h' : Heap} {a C dx : Addr} {fs fs' : List (Str × V)}
theorem KU (hok : HOk P w H h) (e : H a = some (.ins C dx fs)) : ∃ mA, ObjM h a dx C mA ∧ (∀ f, uv (fs.lookup f) (mA f)) ∧ PySem.Within mA (fs.map (·.1)) ∧ fs.length ≤ 1000 ∧ H dx = some (.own a) := by
  obtain ⟨d, z, ne, ob, mA, n, r, q⟩ := (show zR P w H h a (.ins C dx fs) from hok a _ e)
  exact ⟨mA, ⟨ob, n, ne⟩, r, q, z, d⟩
end
structure Cls (K : PySem.W.Frag) (C : Addr) : Prop where
  pg : PySem.W.plainGet K C Str.empty = true
  hd : PySem.W.hasDictIn K C = true
  po : PySem.W.plainOver K C = true
  sa : PySem.W.findIn K (.ref C) "__setattr__" = some (some (.builtin "object.__setattr__"))
theorem Cls.get {K : PySem.W.Frag} {C : Addr} (c : Cls K C) (f : Str) : PySem.W.plainGet K C f = true := c.pg
noncomputable def Uh (K : PySem.W.Frag) (C : Addr) (f : Str) : Prop := PySem.W.findIn K (.ref C) f = some none
section
variable {X : Cx} {pins : List (Addr × Obj)} {σ : St} {H : Hp} {s : Shared} {a C dx : Addr} {fs : List (Str × V)} {f : Str} {v : V} {A : Around} {E : Value → Shared → Prop}
theorem Inv.made (I : Inv X pins σ H s) : Inv X pins σ (upd (upd H s.heap.objs.size (.own (s.heap.objs.size + 1))) (s.heap.objs.size + 1) (.ins C s.heap.objs.size []))
    { s with heap := (s.heap.push PySem.W.emptyDict).push (PySem.W.instObj C s.heap.objs.size) } := by
  have e1 : (s.heap.push PySem.W.emptyDict).get? s.heap.objs.size = some PySem.W.emptyDict := Heap.get?_push_size s.heap rfl
  have e2 : ((s.heap.push PySem.W.emptyDict).push (PySem.W.instObj C s.heap.objs.size)).get? (s.heap.objs.size + 1) = some (PySem.W.instObj C s.heap.objs.size) := by
    have := Heap.get?_push_size (s.heap.push PySem.W.emptyDict) (o := PySem.W.instObj C s.heap.objs.size) rfl
    rwa [Heap.size_push] at this
  have e3 : (s.heap.push PySem.W.emptyDict).Ns s.heap.objs.size (fun _ => none) := ⟨PySem.W.emptyDict, #[], _, e1, rfl, (fun e he => absurd he (by simp)), fun _ => rfl⟩
  have I1 := I.laid (a := s.heap.objs.size) (o := .own (s.heap.objs.size + 1)) (h' := s.heap.push PySem.W.emptyDict) (t' := s.toks) (fun b u q => Heap.get?_push_of_some _ q) (Nat.le_refl _) ⟨_, e1⟩
  refine I1.laid (a := s.heap.objs.size + 1) (o := .ins C s.heap.objs.size []) (t' := s.toks) (fun b u q => Heap.get?_push_of_some _ q) (Nat.le_of_eq (Heap.size_push _ _)) ?_
  have ne : s.heap.objs.size ≠ s.heap.objs.size + 1 := Nat.ne_of_lt (Nat.lt_succ_self _)
  refine ⟨by rw [zd ne, zg], Nat.zero_le _, ne, e2, fun _ => none, (Heap.Ns1.of_empty e3).at fun o q => Heap.get?_push_of_some _ q, fun _ => True.intro, fun y hy => absurd rfl hy⟩
end
section
variable {X : Cx} {o e value : Expr} {f : Str} {pos pos' tpos : Pos} {ta tv : TE}
end
section
variable {X : Cx} {pins : List (Addr × Obj)} {σ : St} {H : Hp} {s : Shared} {A : Around} {E : Value → Shared → Prop} {Q : Value → Shared → Prop} {c : Value} {b : Bool}
inductive TyOf (K : PySem.W.Frag) (H : Hp) : V → Value → Prop where
  | non : TyOf K H .non (.type "NoneType")
  | bl (x : Bool) : TyOf K H (.bl x) (.type "bool")
  | int (i : Int) : TyOf K H (.int i) (.type "int")
  | str (x : Str) : TyOf K H (.str x) (.type "str")
  | flt (x : UInt64) : TyOf K H (.flt x) (.type "float")
  | lst {a : Addr} {xs : List V} (e : H a = some (.lst xs)) : TyOf K H (.ref a) (.type "list")
  | frz {a : Addr} {o : Obj} {xs : List V} (e : H a = some (.frz o (.lst xs))) : TyOf K H (.ref a) (.type "list")
  | tup {a : Addr} {xs : List V} (e : H a = some (.tup xs)) : TyOf K H (.ref a) (.type "tuple")
  | dK {a : Addr} {kvs : List (Key × V)} (e : H a = some (.dK kvs)) : TyOf K H (.ref a) (.type "dict")
  | dT {a : Addr} {kvs : List (List Key × V)} (e : H a = some (.dT kvs)) : TyOf K H (.ref a) (.type "dict")
  | ins {a C dx : Addr} {fs : List (Str × V)} (e : H a = some (.ins C dx fs)) (cl : Cls K C) (ha : PySem.W.findIn K (.ref C) "__class__" = some (some (.builtin "object.__class__")))
      (hn : PySem.W.specialIn K (.builtin "object.__class__") "__get__" = some (some (.builtin "getset_descriptor.__get__"))) (htk : PySem.W.takesIn K (.builtin "object.__class__") = some true)
      (hm : PySem.W.mroIn K C (.type "object") = some true) : TyOf K H (.ref a) (.ref C)
theorem vc {x : V} {u t : Value} (I : Inv X pins σ H s) (rx : RelV x u) (ty : TyOf X.K H x t) (e : PySem.W.kitOne X.K t c = some b) (h : ∀ tk, Q (.bool b) { s with toks := tk }) :
    wpAny (model X.prog X.w) A (call (.builtin "isinstance") [u, c]) Q E s := by
  cases ty with
  | non => cases (show u = Value.none from rx); exact PySem.W.kia_one PySem.W.kitx_none I.kIn True.intro e (fun z => nomatch z) h
  | bl y => cases (show u = Value.bool y from rx); exact PySem.W.kia_one PySem.W.kitx_bool I.kIn True.intro e (fun z => nomatch z) h
  | int i => obtain ⟨t, q⟩ := (show ∃ t, u = Value.int i t from rx); cases q; exact PySem.W.kia_one PySem.W.kitx_int I.kIn True.intro e (fun z => nomatch z) h
  | str y => obtain ⟨t, q⟩ := (show ∃ t, u = Value.str y t from rx); cases q; exact PySem.W.kia_one PySem.W.kitx_str I.kIn True.intro e (fun z => nomatch z) h
  | flt y => obtain ⟨t, q⟩ := (show ∃ t, u = Value.float y t from rx); cases q; exact PySem.W.kia_one PySem.W.kitx_float I.kIn True.intro e (fun z => nomatch z) h
  | @lst a xs ea =>
    cases (show u = Value.ref a from rx)
    obtain ⟨_, _, n, _, h1⟩ := (show zR X.prog X.w H s.heap a (.lst xs) from I.hok a _ ea)
    exact PySem.W.kia_one PySem.W.kitx_list I.kIn ⟨_, h1, rfl⟩ e (fun z => nomatch z) h
  | @frz a ob xs ea =>
    cases (show u = Value.ref a from rx)
    obtain ⟨_, _, _, n, _, h1⟩ := (show zR X.prog X.w H s.heap a (.frz ob (.lst xs)) from I.hok a _ ea)
    exact PySem.W.kia_one PySem.W.kitx_list I.kIn ⟨_, h1, rfl⟩ e (fun z => nomatch z) h
  | @tup a xs ea =>
    cases (show u = Value.ref a from rx)
    obtain ⟨_, _, _, p⟩ := (show zR X.prog X.w H s.heap a (.tup xs) from I.hok a _ ea)
    obtain ⟨o, h1, h2, _⟩ := p
    exact PySem.W.kia_one PySem.W.kitx_tuple I.kIn ⟨o, h1, h2⟩ e (fun z => nomatch z) h
  | @dK a kvs ea =>
    cases (show u = Value.ref a from rx)
    obtain ⟨_, _, vs, _, p⟩ := (show zR X.prog X.w H s.heap a (.dK kvs) from I.hok a _ ea)
    obtain ⟨o, es, ep, h1, h2, _⟩ := p
    exact PySem.W.kia_one PySem.W.kitx_dict I.kIn ⟨o, h1, h2.1⟩ e (fun z => nomatch z) h
  | @dT a kvs ea =>
    cases (show u = Value.ref a from rx)
    obtain ⟨_, _, xs, _, o, es, ep, h1, h2, _⟩ := (show zR X.prog X.w H s.heap a (.dT kvs) from I.hok a _ ea)
    exact PySem.W.kia_one PySem.W.kitx_dict I.kIn ⟨o, h1, h2.1⟩ e (fun z => nomatch z) h
  | @ins a C dx fs ea cl ha hn htk hm =>
    cases (show u = Value.ref a from rx)
    obtain ⟨mA, O, _⟩ := KU I.hok ea
    obtain ⟨od, J, _⟩ := O.look
    exact PySem.W.kia_one (PySem.W.kitx_own (cl.get _) cl.hd ha hn htk hm) I.kIn J e (fun z => nomatch z) h
end
end L2
namespace L2
open PySem PySem.Spec PyProof.Rows
structure Room (k : Nat) (A : Around) : Prop where
  hd : A.handled = none
  dp : A.depth + 3 * k + 5 < recursionLimit
  un : A.units + 16 * k + 200 < cLine
  gd : A.guards = some []
theorem Room.mono {j k : Nat} {A : Around} (r : Room k A) (h : j ≤ k) : Room j A := ⟨r.hd, by have := r.dp; omega, by have := r.un; omega, r.gd⟩
theorem Room.deeper {k : Nat} {A : Around} (r : Room (k + 1) A) (env : Env) : Room k (A.deeper env) :=
  ⟨r.hd, by have := r.dp; show A.depth + 1 + 3 * k + 5 < _; omega, by have := r.un; show A.units + 3 + 16 * k + 200 < _; omega, r.gd⟩
theorem Room.in1 {k : Nat} {A : Around} (r : Room (k + 1) A) : Room k A.in1 :=
  ⟨r.hd, by have := r.dp; show A.depth + 3 * k + 5 < _; omega, by have := r.un; show A.units + 1 + 16 * k + 200 < _; omega, r.gd⟩
theorem Room.depth {k : Nat} {A : Around} (r : Room k A) : A.depth < recursionLimit := by have := r.dp; omega
theorem Room.units {k : Nat} {A : Around} (r : Room k A) : A.units + 64 < cLine := by have := r.un; omega
noncomputable def uW : TA := fun _ H Q => Q [] H
noncomputable def xu (ta : TE) (tr : TA) : TA := fun σ H Q => ta σ H fun x H1 => tr σ H1 fun xs H2 => Q (x :: xs) H2
section
variable {X : Cx} {e : Expr} {es : List Expr} {te : TE} {t : TA} {pos : Pos}
theorem zbo : PA X [] uW := fun _ _ _ _ H Q I h => Calls.spliced_nil ⟨[], H, I, .nil, h⟩
theorem KW (ha : PE X e te) (hr : PA X es t) (hs : starEach (e :: es) X.env = (false, eval e X.env) :: starEach es X.env := by rfl) : PA X (e :: es) (xu te t) := by
  intro pos pins s σ H Q I h
  rw [hs]
  show wpAny _ _ (spliced ((false, eval e X.env) :: backTo pos (starEach es X.env))) _ _ s
  refine Calls.spliced_cons (thn (ha pins s σ H _ I h) fun u s1 ⟨x, H1, I1, r1, q1⟩ => ?_)
  exact thn (hr pos pins s1 σ H1 _ I1 q1) fun us s2 ⟨xs, H2, I2, r2, q2⟩ => ⟨x :: xs, H2, I2, .cons r1 r2, q2⟩
noncomputable def X5 (t : TA) : TE := fun σ H Q => t σ H fun xs H1 => xs.length ≤ sizeLine ∧ ∀ p, H1 p = none → Q (.ref p) (upd H1 p (.tup xs))
noncomputable def ZH (t : TA) : TE := fun σ H Q => t σ H fun xs H1 => xs.length ≤ sizeLine ∧ ∀ p, H1 p = none → Q (.ref p) (upd H1 p (.lst xs))
theorem zbp {x1} (h : PA X es t) : PE X (.Tuple es x1 pos) (X5 t) := by
  intro pins s σ H Q I hq
  refine wpAny_Tuple_spliced (thn (h pos pins s σ H _ I hq) fun us s1 ⟨xs, H1, I1, r, z, q⟩ => ⟨by rw [← r.length]; exact z, ?_⟩)
  have hf : H1 s1.heap.objs.size = none := I1.hok.fresh (Nat.le_refl _)
  refine ⟨.ref s1.heap.objs.size, upd H1 s1.heap.objs.size (.tup xs), I1.laid (t' := s1.toks) (fun b u e => Heap.get?_push_of_some _ e) (Nat.le_refl _) ?_, rfl, q _ hf⟩
  exact ⟨z, us, r, ⟨_, Heap.get?_push_size _ rfl, rfl, _, rfl⟩⟩
theorem Ui (h : PA X es t) : PE X (.List es pos) (ZH t) := by
  intro pins s σ H Q I hq
  refine wpAny_List_spliced (thn (h pos pins s σ H _ I hq) fun us s1 ⟨xs, H1, I1, r, z, q⟩ => ⟨by rw [← r.length]; exact z, ?_⟩)
  have hf : H1 s1.heap.objs.size = none := I1.hok.fresh (Nat.le_refl _)
  refine ⟨.ref s1.heap.objs.size, upd H1 s1.heap.objs.size (.lst xs), I1.laid (t' := s1.toks) (fun b u e => Heap.get?_push_of_some _ e) (Nat.le_refl _) ?_, rfl, q _ hf⟩
  exact ⟨z, us, 0, r, Heap.get?_push_size _ rfl⟩
end
noncomputable abbrev Sp := List V → Hp → VK → XK → Prop
noncomputable abbrev CXT := List Env → Hp → Shared → XK → Value → Shared → Prop
structure Env0 (P : Program) (w : World) (K : PySem.W.Frag) (mg : Str → Option Value) (base : Heap) (A : Around) (outer : List Env) (s : Shared) (H : Hp) : Prop where
  frames : A.frames = some outer
  mod : Mod K mg base
  bs : ∀ b o, base.get? b = some o → s.heap.get? b = some o ∧ H b = none
  bsz : base.objs.size ≤ s.heap.objs.size
  funs : s.heap.FunFrames base outer
  frf : ∀ b ∈ frs outer, H b = none
  hok : HOk P w H s.heap
  bare : AllBare s.gens
noncomputable def CE (outer : List Env) (P : Program) (w : World) (H : Hp) (s : Shared) (Q : VK) (u : Value) (s' : Shared) : Prop :=
  ∃ v H', s'.os = s.os ∧ AllBare s'.gens ∧ Un (frs outer) [] H H' s.heap s'.heap ∧ HOk P w H' s'.heap ∧ RelV v u ∧ Q v H'
noncomputable def CR (CX : CXT) (outer : List Env) (P : Program) (w : World) (H : Hp) (s : Shared) (Q : VK) (E : XK) (r : Result) (s' : Shared) : Prop :=
  match r with
  | .ok (.ret u) => CE outer P w H s Q u s'
  | .ok _ => False
  | .error e => CX outer H s E e s'
structure FnOk (P : Program) (w : World) (K : PySem.W.Frag) (mg : Str → Option Value) (base : Heap) (CX : CXT) (k : Nat) (f : Addr) (fd : FuncData) (ps : List Str) (sp : Sp) : Prop where
  len : ∀ vs H Q E, sp vs H Q E → vs.length = ps.length
  run : ∀ (A : Around) (outer : List Env) (s : Shared) (H : Hp) (args : Args) (us : List Value) (vs : List V) (Q : VK) (E : XK), Room k A → Env0 P w K mg base A outer s H → BindsTo s fd args (ps.zip us) → Vals vs us → sp vs H Q E →
    codeAny (model P w) A (.call (.ref f) args) (CR CX outer P w H s Q E) s
theorem FnOk.mono {P : Program} {w : World} {K : PySem.W.Frag} {mg : Str → Option Value} {base : Heap} {CX : CXT} {j k : Nat} {f : Addr} {fd : FuncData} {ps : List Str} {sp : Sp} (F : FnOk P w K mg base CX j f fd ps sp) (h : j ≤ k) :
    FnOk P w K mg base CX k f fd ps sp := ⟨F.len, fun A outer s H args us vs Q E hr => F.run A outer s H args us vs Q E (hr.mono h)⟩
theorem FnOk.imp {P : Program} {w : World} {K : PySem.W.Frag} {mg : Str → Option Value} {base : Heap} {CX : CXT} {k : Nat} {f : Addr} {fd : FuncData} {ps : List Str} {sp sp' : Sp} (F : FnOk P w K mg base CX k f fd ps sp)
    (h : ∀ vs H Q E, sp' vs H Q E → sp vs H Q E) : FnOk P w K mg base CX k f fd ps sp' :=
  ⟨fun vs H Q E q => F.len vs H Q E (h _ _ _ _ q), fun A outer s H args us vs Q E hr he hb hv hs => F.run A outer s H args us vs Q E hr he hb hv (h _ _ _ _ hs)⟩
theorem Env0.in1 {P : Program} {w : World} {K : PySem.W.Frag} {mg : Str → Option Value} {base : Heap} {A : Around} {outer : List Env} {s : Shared} {H : Hp} (e : Env0 P w K mg base A outer s H) :
    Env0 P w K mg base A.in1 outer s H := ⟨e.frames, e.mod, e.bs, e.bsz, e.funs, e.frf, e.hok, e.bare⟩
section
variable {X : Cx} {pins : List (Addr × Obj)} {σ : St} {H : Hp} {s s' : Shared}
theorem Inv.env0 (I : Inv X pins σ H s) : Env0 X.prog X.w X.K X.mg X.base X.A X.stack s H :=
  ⟨I.ok.frames, I.ok.mod, I.bs, Nat.le_trans I.ok.bsz I.sz, I.stack, I.stkFree, I.hok, I.bare⟩
theorem Inv.after {Q : VK} {u : Value} (I : Inv X pins σ H s) (h : CE X.stack X.prog X.w H s Q u s') : EP X pins σ Q u s' := by
  obtain ⟨v, H', os, bare, un, hok, r, q⟩ := h
  obtain ⟨hh, g, d, t, os'⟩ := s'
  obtain rfl : os' = s.os := os
  exact ⟨v, H', I.call (h' := hh) (g' := g) (d' := d) (t' := t) (ch := []) un hok bare (fun b z => absurd z (by simp)), r, q⟩
end
noncomputable def xv (sp : Sp) (dvs : List V) (E : XK) (t : TA) : TE := fun σ H Q => t σ H fun vs H1 => sp (vs ++ dvs) H1 Q E
noncomputable def Binds (K : PySem.W.Frag) (fd : FuncData) (ps : List Str) (ds : List Value) : Prop :=
  ∀ (s : Shared) (us : List Value), K.In s.heap → (us ++ ds).length = ps.length → BindsTo s fd ⟨us, []⟩ (ps.zip (us ++ ds))
theorem Binds.all {K : PySem.W.Frag} {fd : FuncData} {ps : List Str} (h : ∀ us : List Value, us.length = ps.length → bindArgs fd ⟨us, []⟩ = pure (ps.zip us)) : Binds K fd ps [] := fun s us _ hl => by
  rw [List.append_nil] at hl ⊢
  exact .of_eq (h us hl)
noncomputable def ug (CX : CXT) (X : Cx) (E : XK) : Prop := ∀ (pins : List (Addr × Obj)) (σ : St) (H : Hp) (s : Shared) (e : Value) (s' : Shared), Inv X pins σ H s → CX X.stack H s E e s' → X.xe e s'
section
variable {X : Cx} {CX : CXT} {k : Nat} {f C : Addr} {fd : FuncData} {ps : List Str} {sp : Sp} {dvs : List V} {ds : List Value} {E : XK} {x m : Str} {p pos apos : Pos} {e o : Expr} {es : List Expr} {ta : TE} {t : TA}
theorem zbq {pins : List (Addr × Obj)} {σ : St} {H : Hp} {s : Shared} {Q : VK} {us : List Value} {vs : List V} (F : FnOk X.prog X.w X.K X.mg X.base CX k f fd ps sp) (hr : Room k X.A) (hb : Binds X.K fd ps ds) (hd : Vals dvs ds) (hx : ug CX X E)
    (I : Inv X pins σ H s) (r : Vals vs us) (h : sp (vs ++ dvs) H Q E) : wpAny (model X.prog X.w) X.A (call (.ref f) us) (EP X pins σ Q) X.xe s := by
  have r2 : Vals (vs ++ dvs) (us ++ ds) := r.append hd
  have hl : (us ++ ds).length = ps.length := by rw [← r2.length]; exact F.len _ _ _ _ h
  refine wpAny_call (codeAny_mono (F.run X.A X.stack s H ⟨us, []⟩ (us ++ ds) (vs ++ dvs) Q E hr I.env0 (hb s us I.kIn hl) r2 h) fun r s' hq => ?_)
  cases r with
  | error e => exact hx pins σ H s e s' I hq
  | ok fl =>
    cases fl with
    | ret u => exact I.after hq
    | next => exact False.elim hq
    | brk => exact False.elim hq
    | cont => exact False.elim hq
theorem Xh (F : FnOk X.prog X.w X.K X.mg X.base CX k f fd ps sp) (hr : Room k X.A) (hg : Gl X x) (hm : X.mg x = some (.ref f)) (hk : PySem.W.keepIn X.K (.ref f) = true) (hb : Binds X.K fd ps ds) (hd : Vals dvs ds) (hx : ug CX X E)
    (ha : PA X (e :: es) t) (hdb : (x == ("__debug__" : Str)) = false := by decide) (he : starEach (e :: es) X.env = (false, eval e X.env) :: starEach es X.env := by rfl) (hpl : (backTo pos (starEach es X.env)).any (·.1) = false := by rfl) :
    PE X (.Call (.Name x p) (e :: es) [] pos) (xv sp dvs E t) := by
  intro pins s σ H Q I h
  refine wpAny_Call_Name_kw (qt I hg hm ?_ hdb)
  refine PySem.W.callWith_K (h₀ := X.base) I.ok.mod.kin hk (thn (ha pos pins s σ H _ I h) fun us s1 ⟨vs, H1, I1, r, q⟩ => ⟨I1.kIn, ?_⟩) he hpl
  exact zbq F hr hb hd hx I1 r q
end
section
variable {X : Cx} {CX : CXT} {k : Nat} {f C : Addr} {fd : FuncData} {ps ks : List Str} {sp : Sp} {E : XK} {x m : Str} {p pos apos kpos : Pos} {e o : Expr} {es : List Expr} {kws : List Keyword} {te ta : TE} {t tk : TA} {nm : Option Str}
variable {g : List Value → List Value → List Value} {gV : List V → List V → List V}
end
structure FnScope (N P : List Str) (sc : Scope) : Prop where
  kind : sc.kind = .function
  co : sc.isCoroutine = false
  gen : sc.isGenerator = false
  nd : N.Nodup
  pre : N.take P.length = P
  par : ∀ x ∈ P, sc.names.lookup x = some .local ∨ sc.names.lookup x = some .cell
  nofree : ∀ y ∈ sc.names, y.2 ≠ .free
theorem kH {kindOf : Str → Option NameKind} {x : Str} : ∀ {binds : List (Str × Value)} {m : Str → Option Value}, (∀ v, (x, v) ∉ binds) → bindL kindOf binds m x = m x
  | [], _, _ => rfl
  | (n, v) :: r, m, h => by
    unfold bindL
    rw [kH fun w hw => h w (List.mem_cons_of_mem _ hw)]
    split
    · have : x ≠ n := by rintro rfl; exact h v List.mem_cons_self
      simp [this]
    · rfl
theorem kI {kindOf : Str → Option NameKind} {x : Str} : ∀ {binds : List (Str × Value)} {m : Str → Option Value}, (∀ v, (x, v) ∉ binds) → bindC kindOf binds m x = m x
  | [], _, _ => rfl
  | (n, v) :: r, m, h => by
    unfold bindC
    rw [kI fun w hw => h w (List.mem_cons_of_mem _ hw)]
    split
    · rfl
    · have : x ≠ n := by rintro rfl; exact h v List.mem_cons_self
      simp [this]
theorem kJ {kindOf : Str → Option NameKind} {x : Str} {v : Value} : ∀ {P : List Str} {vs : List Value} {i : Nat} {m : Str → Option Value}, P.Nodup → P[i]? = some x → vs[i]? = some v → kindOf x = some .local →
    bindL kindOf (P.zip vs) m x = some v
  | [], _, _, _, _, h, _, _ => by simp at h
  | _ :: _, [], _, _, _, _, h, _ => by simp at h
  | p :: P, w :: vs, 0, m, nd, h1, h2, hk => by
    simp at h1 h2; subst h1; subst h2
    show bindL kindOf ((p, w) :: P.zip vs) m p = _
    unfold bindL
    rw [kH fun v hv => (List.nodup_cons.mp nd).1 (List.of_mem_zip hv).1, if_pos hk]
    simp
  | p :: P, w :: vs, i + 1, m, nd, h1, h2, hk => by
    show bindL kindOf ((p, w) :: P.zip vs) m x = _
    unfold bindL
    exact kJ (i := i) (List.nodup_cons.mp nd).2 (by simpa using h1) (by simpa using h2) hk
theorem kK {kindOf : Str → Option NameKind} {x : Str} {v : Value} : ∀ {P : List Str} {vs : List Value} {i : Nat} {m : Str → Option Value}, P.Nodup → P[i]? = some x → vs[i]? = some v → kindOf x ≠ some .local →
    bindC kindOf (P.zip vs) m x = some v
  | [], _, _, _, _, h, _, _ => by simp at h
  | _ :: _, [], _, _, _, _, h, _ => by simp at h
  | p :: P, w :: vs, 0, m, nd, h1, h2, hk => by
    simp at h1 h2; subst h1; subst h2
    show bindC kindOf ((p, w) :: P.zip vs) m p = _
    unfold bindC
    rw [kI fun v hv => (List.nodup_cons.mp nd).1 (List.of_mem_zip hv).1, if_neg hk]
    simp
  | p :: P, w :: vs, i + 1, m, nd, h1, h2, hk => by
    show bindC kindOf ((p, w) :: P.zip vs) m x = _
    unfold bindC
    exact kK (i := i) (List.nodup_cons.mp nd).2 (by simpa using h1) (by simpa using h2) hk
noncomputable def start (N : List Str) (vs : List V) : St := vs.map some ++ List.replicate (N.length - vs.length) none
noncomputable def y6 (CX : CXT) (P : Program) (w : World) (K : PySem.W.Frag) (mg : Str → Option Value) (base : Heap) (N : List Str) (qual : Str) (scope : Scope) (f : Addr) (cd : Value) (A : Around) (outer : List Env) (s : Shared) (H : Hp) (E : XK) : Cx where
  prog := P
  w := w
  K := K
  mg := mg
  base := base
  A := A.deeper (envOfC qual scope s.heap.objs.size f cd)
  N := N
  s₀ := s
  H₀ := H
  env := envOfC qual scope s.heap.objs.size f cd
  outer := outer
  stack := envOfC qual scope s.heap.objs.size f cd :: outer
  ex := []
  calm := true
  fn := fun _ => true
  pn := []
  xe := fun e s' => wpAny (model P w) (A.deeper (envOfC qual scope s.heap.objs.size f cd)) (leaving (envOfC qual scope s.heap.objs.size f cd) e) (fun _ s'' => CX outer H s E e s'') (fun e' s'' => CX outer H s E e' s'') s'
theorem ZI {sc : Scope} {n : Nat} {x : Str} (h : sc.names.lookup x = some .cell) : ∃ c, (cellsFrom n sc.names []).lookup x = some c := by
  have q := PySem.W.cellsFrom_some sc.names n [] (.inl h)
  exact Option.isSome_iff_exists.mp q
theorem Uj {CX : CXT} {P : Program} {w : World} {K : PySem.W.Frag} {mg : Str → Option Value} {base : Heap} {N ps : List Str} {qual : Str} {scope : Scope} {f : Addr} {cd : Value} {A : Around} {outer : List Env} {s s1 : Shared} {H : Hp} {E : XK} {us : List Value} {vs : List V}
    (S : FnScope N ps scope) (hd : A.handled = none) (e0 : Env0 P w K mg base A outer s H) (hl : vs.length = ps.length) (r : Vals vs us)
    (x : InCallC s s.heap.objs.size (bindL (envOfC qual scope s.heap.objs.size f cd).kindOf (ps.zip us) fun _ => none) (cellsFrom (s.heap.objs.size + 1) scope.names []) (bindC (envOfC qual scope s.heap.objs.size f cd).kindOf (ps.zip us) fun _ => none) s1) :
    Inv (y6 CX P w K mg base N qual scope f cd A outer s H E) [] (start N vs) H s1 := by
  have hpl : ps.length ≤ N.length := by have := congrArg List.length S.pre; rw [List.length_take] at this; omega
  obtain ⟨h1, tk, rfl, hk⟩ := x.done
  have noA : ∀ b : Addr, b ∉ (y6 CX P w K mg base N qual scope f cd A outer s H E).ex := fun b z => absurd (show b ∈ ([] : List Addr) from z) (by simp)
  refine ⟨⟨e0.mod, S.kind, rfl, rfl, Nat.le_refl _, fun y z c h1 h2 => ?_, fun y hy => ?_, fun y c _ h => ?_, fun _ => hd, Around.frames_deeper e0.frames, .inr ⟨rfl, rfl⟩, fun b z => absurd z (noA b), e0.bs, e0.bsz, fun b _ _ => noA b, fun b z => absurd z (noA b), e0.funs, e0.frf⟩,
    rfl, e0.bare, Un.kept hk, ⟨_, x.toInCall.ns, fun i y v h1 h2 h3 => ?_⟩, fun y c h => ⟨_, x.cell y c h⟩, e0.hok.fresh (Nat.le_refl _), fun y c h => ?_, fun p hp => absurd (show p ∈ ([] : List (Addr × Obj)) from hp) (by simp), e0.hok.kept hk, ?_⟩
  · exact name_of_addr x.apart (PySem.mem_of_lookup h1) (PySem.mem_of_lookup h2)
  · have hy : scope.names.lookup y = some .cell ∨ scope.names.lookup y = some .free := hy
    rcases hy with hy | hy
    · exact ZI hy
    · exact absurd rfl (S.nofree _ (PySem.mem_of_lookup hy))
  · exact Nat.le_of_lt (x.above y c (PySem.mem_of_lookup h))
  · have hi : i < vs.length := by
      unfold start at h2
      by_cases hi : i < vs.length
      · exact hi
      · rw [List.getElem?_append_right (by simpa using hi)] at h2
        rw [List.getElem?_replicate] at h2
        split at h2 <;> cases h2
    have ha : vs[i]? = some v := by
      unfold start at h2
      rw [List.getElem?_append_left (by simpa using hi), List.getElem?_map] at h2
      cases e : vs[i]? with
      | none => rw [e] at h2; cases h2
      | some a => rw [e] at h2; cases h2; rfl
    obtain ⟨u, hu, rv⟩ := r.get ha
    have hp : ps[i]? = some y := by
      rw [← S.pre, List.getElem?_take_of_lt (by omega)]; exact h1
    have ndP : ps.Nodup := by rw [← S.pre]; exact S.nd.sublist (List.take_sublist _ _)
    refine ⟨u, rv, ?_⟩
    rcases S.par y (List.mem_of_getElem? hp) with k | k
    · exact .inl ⟨k, kJ ndP hp hu k⟩
    · obtain ⟨c, e⟩ := ZI (n := s.heap.objs.size + 1) k
      refine .inr ⟨.inl k, c, e, ?_⟩
      have q := x.cell y c e
      rw [kK ndP hp hu (by show scope.names.lookup y ≠ _; rw [k]; decide)] at q
      exact q
  · exact e0.hok.fresh (Nat.le_of_lt (x.above y c (PySem.mem_of_lookup h)))
  · unfold start
    show _ = N.length
    rw [List.length_append, List.length_map, List.length_replicate]
    omega
theorem Zk {CX : CXT} {P : Program} {w : World} {K : PySem.W.Frag} {mg : Str → Option Value} {base : Heap} {k : Nat} {f : Addr} {name qual : Str} {params : Arguments} {body : List Stmt} {scope : Scope} {dV kV doc pm cdv ct oc : Value} {an od : Option Addr}
    {osl : Array (Option Value)} {N ps : List Str} {sp : Sp} (lk : K.lookup f = some ⟨oc, od, .func (PySem.W.fnOf name qual params body scope dV kV doc pm an cdv ct), osl⟩) (hcd : PySem.W.codeIn K cdv qual = true) (S : FnScope N ps scope)
    (len : ∀ vs H Q E, sp vs H Q E → vs.length = ps.length)
    (hbody : ∀ (A : Around) (outer : List Env) (s : Shared) (H : Hp) (vs : List V) (Q : VK) (E : XK), Room k (A.deeper (envOfC qual scope s.heap.objs.size f cdv)) → sp vs H Q E →
      ∃ t, PSs (y6 CX P w K mg base N qual scope f cdv A outer s H E) body t ∧ t { nx := fun _ H' => Q .non H', rt := Q } (start N vs) H) :
    FnOk P w K mg base CX (k + 1) f (PySem.W.fnOf name qual params body scope dV kV doc pm an cdv ct) ps sp := by
  refine ⟨len, fun A outer s H args us vs Q E hr e0 hb r hsp => ?_⟩
  have hl := len _ _ _ _ hsp
  have KX : K.In s.heap := e0.mod.kin.keeps fun b o e => (e0.bs b o e).1
  have lim : s.heap.NoLimit := e0.mod.nolimit.keeps fun b o e => (e0.bs b o e).1
  have hkind : ∀ y ∈ ps.zip us, scope.names.lookup y.1 = some .local ∨ (scope.names.lookup y.1 = some .cell ∧ ((cellsFrom (s.heap.objs.size + 1) scope.names []).lookup y.1).isSome = true) := fun ⟨n, v⟩ hy => by
    rcases S.par n (List.of_mem_zip hy).1 with q | q
    · exact .inl q
    · exact .inr ⟨q, PySem.W.cellsFrom_some _ _ _ (.inl q)⟩
  refine codeAny_call_function hr.depth (KX _ _ lk) rfl S.co S.gen rfl (PySem.W.codeRec_of KX hcd) (hb _ _ _ _ ?_)
  refine wpAny_newFunctionEnv_cells S.kind hkind fun env he s1 x => ?_
  subst he
  refine ⟨lim.keeps x.toInCall.keep, codeAny_func ?_⟩
  obtain ⟨t, ht, hq⟩ := hbody A outer s H vs Q E (hr.deeper _) hsp
  have I : Inv (y6 CX P w K mg base N qual scope f cdv A outer s H E) [] (start N vs) H s1 := Uj S hr.hd e0 hl r x
  refine wpAny_mono (ht [] s1 (start N vs) H _ I hq) (fun fl s' hs => ?_) fun e s' hs => hs
  have fin : ∀ {σ' : St} {H' : Hp} {v : V} {u : Value}, Inv (y6 CX P w K mg base N qual scope f cdv A outer s H E) [] σ' H' s' → RelV v u → Q v H' → CE outer P w H s Q u s' :=
    fun {σ' H' v u} J rv q => ⟨v, H', J.os, J.bare, J.base, J.hok, rv, q⟩
  cases fl with
  | ret u =>
    obtain ⟨v, σ', H', J, rv, q⟩ := hs
    exact fin J rv q
  | next =>
    obtain ⟨σ', H', J, q⟩ := hs
    exact fin (v := V.non) (u := Value.none) J rfl q
  | brk =>
    obtain ⟨_, _, _, q⟩ := hs
    exact False.elim q
  | cont =>
    obtain ⟨_, _, _, q⟩ := hs
    exact False.elim q
end L2
namespace L2
open PySem PySem.Spec PyProof.Rows
section
variable {X : Cx} {x : Str} {p pos : Pos} {e : Expr} {es : List Expr} {t : TA} {id T : String} {r : List V → Hp → VK → Prop}
noncomputable def tCB (r : List V → Hp → VK → Prop) (t : TA) : TE := fun σ H Q => t σ H fun vs H1 => r vs H1 Q
theorem zh (hc : zJ X (.builtin id) r) (hg : Gl X x) (hm : X.mg x = none) (hv : bootBuiltins x = some (.builtin id)) (ha : PA X (e :: es) t) (hn : x ≠ "__name__" := by decide) (hdb : (x == ("__debug__" : Str)) = false := by decide)
    (he : starEach (e :: es) X.env = (false, eval e X.env) :: starEach es X.env := by rfl) (hpl : (backTo pos (starEach es X.env)).any (·.1) = false := by rfl) : PE X (.Call (.Name x p) (e :: es) [] pos) (tCB r t) := by
  intro pins s σ H Q I h
  refine wpAny_Call_Name_kw (x8 I hg hm hv ?_ hn hdb)
  exact PyProof.Rows.callWith_builtin1 (thn (ha pos pins s σ H _ I h) fun us s1 ⟨vs, H1, I1, r1, q1⟩ => hc pins s1 σ H1 vs us Q I1 r1 q1) he hpl
theorem yN (hc : zJ X (.type T) r) (hg : Gl X x) (hm : X.mg x = none) (hv : bootBuiltins x = some (.type T)) (ha : PA X (e :: es) t) (hn : x ≠ "__name__" := by decide) (hdb : (x == ("__debug__" : Str)) = false := by decide)
    (he : starEach (e :: es) X.env = (false, eval e X.env) :: starEach es X.env := by rfl) (hpl : (backTo pos (starEach es X.env)).any (·.1) = false := by rfl) : PE X (.Call (.Name x p) (e :: es) [] pos) (tCB r t) := by
  intro pins s σ H Q I h
  refine wpAny_Call_Name_kw (x8 I hg hm hv ?_ hn hdb)
  exact PyProof.Rows.callWith_type1 (thn (ha pos pins s σ H _ I h) fun us s1 ⟨vs, H1, I1, r1, q1⟩ => hc pins s1 σ H1 vs us Q I1 r1 q1) he hpl
end
end L2
namespace HT
open PySem PyProof.Rows
section
open PySem.SeqAt
open PySem.AutoSeq1 (wpAny_loadPart')
open PySem.MeetsSeq PySem.MeetsSeq2 PySem.MeetsSeq3
end
section
variable {prog : Program} {w : World} {A : Around} {E : Value → Shared → Prop} {s : Shared}
noncomputable def sIx (n d : Nat) : Option Int → Nat
  | none => d
  | some v => if v < 0 then (v + (n : Int)).toNat else min v.toNat n
theorem sIx_none (n d : Nat) : sIx n d none = d := rfl
theorem sIx_nat (n d k : Nat) : sIx n d (some (k : Int)) = min k n := by
  show (if (k : Int) < 0 then ((k : Int) + (n : Int)).toNat else min (k : Int).toNat n) = min k n
  rw [if_neg (by omega), Int.toNat_natCast]
end
end HT
namespace L2
open PySem PySem.Spec PyProof.Rows
noncomputable abbrev TO := St → Hp → (Option Int → Hp → Prop) → Prop
noncomputable def PO (X : Cx) (e : Option Expr) (t : TO) : Prop :=
  ∀ (pins : List (Addr × Obj)) (s : Shared) (σ : St) (H : Hp) (Q : Option Int → Hp → Prop), Inv X pins σ H s → t σ H Q →
    wpAny (model X.prog X.w) X.A (evalPart e X.env) (fun u s' => ∃ o H', Inv X pins σ H' s' ∧ IsPart u o ∧ Q o H') X.xe s
noncomputable def Xi : TO := fun _ H Q => Q none H
noncomputable def J1 (t : TE) : TO := fun σ H Q => t σ H fun x H1 => ∃ i, x = .int i ∧ Q (some i) H1
section
variable {X : Cx} {e : Expr} {te : TE} {lo hi : Option Expr} {tl th : TO} {pos p2 : Pos}
theorem yH : PO X none Xi := by
  intro pins s σ H Q I h
  rw [evalPart_none]
  exact wpAny_pure ⟨none, H, I, .none, h⟩
theorem yI (h : PE X e te) : PO X (some e) (J1 te) := by
  intro pins s σ H Q I hw
  rw [evalPart_some]
  refine thn (h pins s σ H _ I hw) fun u s1 ⟨x, H1, I1, r1, q1⟩ => ?_
  obtain ⟨i, rfl, q⟩ := q1
  obtain ⟨t, rfl⟩ := r1
  exact ⟨some i, H1, I1, .int i t, q⟩
noncomputable def SlR (X : Cx) (r : V → Option Int → Option Int → Hp → VK → Prop) : Prop :=
  ∀ (pins : List (Addr × Obj)) (s : Shared) (σ : St) (H : Hp) (x : V) (v vl vu : Value) (lo hi : Option Int) (sl : Addr) (Q : VK), Inv X pins σ H s → RelV x v → s.heap.IsSliceOf sl vl vu .none → IsPart vl lo → IsPart vu hi → r x lo hi H Q →
    ∃ T id, typeLookup (.type T) "__getitem__" = pure (some (.builtin id)) ∧ s.TypeIs v T ∧ wpAny (model X.prog X.w) X.A (getItem v (.ref sl)) (EP X pins σ Q) X.xe s
theorem SlR.or {r r' : V → Option Int → Option Int → Hp → VK → Prop} (h : SlR X r) (h' : SlR X r') : SlR X (fun x lo hi H Q => r x lo hi H Q ∨ r' x lo hi H Q) := by
  intro pins s σ H x v vl vu lo hi sl Q I rx hs pl pu q
  rcases q with q | q
  · exact h pins s σ H x v vl vu lo hi sl Q I rx hs pl pu q
  · exact h' pins s σ H x v vl vu lo hi sl Q I rx hs pl pu q
noncomputable def tSl (r : V → Option Int → Option Int → Hp → VK → Prop) (te : TE) (tl th : TO) : TE := fun σ H Q => te σ H fun x H1 => tl σ H1 fun l H2 => th σ H2 fun u H3 => r x l u H3 Q
theorem yw {r : V → Option Int → Option Int → Hp → VK → Prop} (hr : SlR X r) (he : PE X e te) (hl : PO X lo tl) (hu : PO X hi th) : PE X (.Subscript e (.Slice lo hi none p2) pos) (tSl r te tl th) := by
  intro pins s σ H Q I h
  refine Subscript_ (thn (he pins s σ H _ I h) fun v s1 ⟨x, H1, I1, r1, q1⟩ => ?_)
  refine wpAny_Slice (thn (hl pins s1 σ H1 _ I1 q1) fun vl s2 ⟨l, H2, I2, pl, q2⟩ => thn (hu pins s2 σ H2 _ I2 q2) fun vu s3 ⟨u, H3, I3, pu, q3⟩ => ?_)
  rw [evalPart_none]
  refine wpAny_pure ?_
  have I4 : Inv X pins σ H3 { s3 with heap := s3.heap.push { cls := .type "slice", data := .fields #[vl, vu, .none] } } := I3.kept (t' := s3.toks) fun b ob q => Heap.get?_push_of_some _ q
  obtain ⟨T, id, hT, ht, hg⟩ := hr pins { s3 with heap := s3.heap.push { cls := .type "slice", data := .fields #[vl, vu, .none] } } σ H3 x v vl vu l u s3.heap.objs.size Q I4 r1 (Heap.IsSliceOf.new ..) pl pu q3
  show wpAny (model X.prog X.w) X.A (subscriptTail e (.Slice lo hi none p2) v (.ref s3.heap.objs.size)) (EP X pins σ Q) X.xe { s3 with heap := s3.heap.push { cls := .type "slice", data := .fields #[vl, vu, .none] } }
  exact tail_any (ops := [.ref s3.heap.objs.size, v]) ht hT hg (by with_unfolding_all rfl)
noncomputable def j6 (xs : List V) (lo hi : Option Int) : List V := (xs.drop (HT.sIx xs.length 0 lo)).take (HT.sIx xs.length xs.length hi - HT.sIx xs.length 0 lo)
theorem YQ (xs : List V) (lo hi : Option Int) : (j6 xs lo hi).length ≤ xs.length := by
  unfold j6
  rw [List.length_take, List.length_drop]
  omega
end
end L2
namespace L2
open PySem PySem.Spec PyProof.Rows
noncomputable def ixN (n : Nat) (i : Int) : Option Nat := if 0 ≤ i then (if i < n then some i.toNat else none) else if -(n : Int) ≤ i then some (i + n).toNat else none
noncomputable def atI {α : Type} (xs : List α) (i : Int) : Option α := (ixN xs.length i).bind fun j => xs[j]?
theorem KY {n : Nat} {i : Int} {j : Nat} (h : ixN n i = some j) : seqIndex? i n = some j ∧ j < n ∧ -(n : Int) ≤ i ∧ i < n := by
  unfold ixN at h
  by_cases h0 : 0 ≤ i
  · rw [if_pos h0] at h
    by_cases h1 : i < n
    · rw [if_pos h1] at h
      have e : i.toNat = j := Option.some.inj h
      exact ⟨by rw [seqIndex_of h0 h1, e], by omega, by omega, h1⟩
    · rw [if_neg h1] at h; cases h
  · rw [if_neg h0] at h
    by_cases h1 : -(n : Int) ≤ i
    · rw [if_pos h1] at h
      have e : (i + n).toNat = j := Option.some.inj h
      exact ⟨by rw [seqIndex_neg (by omega) h1, e], by omega, h1, by omega⟩
    · rw [if_neg h1] at h; cases h
theorem j7 {α : Type} {xs : List α} {i : Int} {v : α} (h : atI xs i = some v) : ∃ j, seqIndex? i xs.length = some j ∧ xs[j]? = some v ∧ j < xs.length ∧ -(xs.length : Int) ≤ i ∧ i < xs.length := by
  unfold atI at h
  cases e : ixN xs.length i with
  | none => rw [e] at h; cases h
  | some j =>
    rw [e] at h
    obtain ⟨h1, h2, h3, h4⟩ := KY e
    exact ⟨j, h1, h, h2, h3, h4⟩
theorem yu {α : Type} {xs : List α} {j : Nat} {v : α} (h : xs[j]? = some v) : atI xs (j : Int) = some v := by
  have hj : j < xs.length := (List.getElem?_eq_some_iff.mp h).1
  have e : ixN xs.length (j : Int) = some j := by
    unfold ixN
    rw [if_pos (by omega), if_pos (by omega)]; simp
  unfold atI; rw [e]; exact h
noncomputable def KZ (b : Expr) : Prop := ∀ o i, subscripted b false o i = operate [o, i] (getItem o i)
noncomputable def IxR (X : Cx) (r : R2) : Prop :=
  ∀ (value slice : Expr) (pins : List (Addr × Obj)) (s : Shared) (σ : St) (H : Hp) (x y : V) (v u : Value) (Q : VK), Inv X pins σ H s → RelV x v → RelV y u → r x y H Q →
    subscripted slice false v u = operate [v, u] (getItem v u) → wpAny (model X.prog X.w) X.A (subscriptTail value slice v u) (EP X pins σ Q) X.xe s
noncomputable def MtR (X : Cx) (id : String) (r : V → List V → Hp → VK → Prop) : Prop :=
  ∀ (pins : List (Addr × Obj)) (s : Shared) (σ : St) (H : Hp) (x : V) (xs : List V) (v : Value) (us : List Value) (Q : VK), Inv X pins σ H s → RelV x v → Vals xs us → r x xs H Q →
    wpAny (model X.prog X.w) X.A (call (.builtin id) (v :: us)) (EP X pins σ Q) X.xe s
section
variable {X : Cx} {a b : Expr} {ta tb : TE} {pos : Pos}
theorem IxR.or {r r' : R2} (h : IxR X r) (h' : IxR X r') : IxR X (fun x y H Q => r x y H Q ∨ r' x y H Q) := by
  intro value slice pins s σ H x y v u Q I rx ry q hs
  rcases q with q | q
  · exact h value slice pins s σ H x y v u Q I rx ry q hs
  · exact h' value slice pins s σ H x y v u Q I rx ry q hs
theorem MtR.or {id : String} {r r' : V → List V → Hp → VK → Prop} (h : MtR X id r) (h' : MtR X id r') : MtR X id (fun x xs H Q => r x xs H Q ∨ r' x xs H Q) := by
  intro pins s σ H x xs v us Q I rx rs q
  rcases q with q | q
  · exact h pins s σ H x xs v us Q I rx rs q
  · exact h' pins s σ H x xs v us Q I rx rs q
theorem zB {r : R2} (hr : IxR X r) (ha : PE X a ta) (hb : PE X b tb) (hs : KZ b) : PE X (.Subscript a b pos) (tOp r ta tb) := by
  intro pins s σ H Q I h
  exact Subscript_ (QF ha hb I h fun v u s2 x y H2 I2 rx ry q => hr a b pins s2 σ H2 x y v u Q I2 rx ry q (hs _ _))
noncomputable def ZJ (K : PySem.W.Frag) : R2 := fun x y H Q => ∃ p xs i v, x = .ref p ∧ y = .int i ∧ SqL K H p xs ∧ atI xs i = some v ∧ Q v H
noncomputable def QJ (K : PySem.W.Frag) : R2 := fun x y H Q => ∃ p xs i v, x = .ref p ∧ y = .int i ∧ SqT K H p xs ∧ atI xs i = some v ∧ Q v H
noncomputable def zbr : R2 := fun x y H Q => ∃ z i c, x = .str z ∧ y = .int i ∧ z.length ≤ sizeLine ∧ atI z.cps.toList i = some c ∧ Q (.str ⟨#[c]⟩) H
theorem K0 : IxR X (ZJ X.K) := by
  intro value slice pins s σ H x y v u Q I rx ry h hs
  obtain ⟨p, xs, i, z, rfl, rfl, hq, he, q⟩ := h
  cases rx
  obtain ⟨t, rfl⟩ := ry
  obtain ⟨its, r, pl, hz⟩ := I.list hq
  obtain ⟨j, h1, h2, h3, h4, h5⟩ := j7 he
  obtain ⟨w, ew, rw'⟩ := r.get h2
  have hl := r.length
  have hn := uf
  have fin : EP X pins σ Q w s := ⟨z, H, I, rw', q⟩
  by_cases h0 : 0 ≤ i
  · have hj : i.toNat = j := by
      rw [seqIndex_of h0 h5] at h1
      exact Option.some.inj h1
    exact item_listR pl.isList h0 (by omega) (by rw [hj]; simpa using ew) fin hs
  · have hj : (i + (its.toArray.size : Int)).toNat = j := by
      rw [seqIndex_neg (by omega) h4] at h1
      rw [List.size_toArray, ← hl]
      exact Option.some.inj h1
    exact subscriptTail_builtinR (x := w) pl.isList.typeIs slot_list_getitem.lookup
      (wpAny_getItem_list_neg (Q := fun r s' => r = w ∧ EP X pins σ Q r s') pl.isList (by omega) (by rw [List.size_toArray] <;> omega) (by omega) (by rw [hj]; simpa using ew) ⟨rfl, fin⟩) hs
theorem zbs : IxR X (QJ X.K) := by
  intro value slice pins s σ H x y v u Q I rx ry h hs
  obtain ⟨p, xs, i, z, rfl, rfl, hq, he, q⟩ := h
  cases rx
  obtain ⟨t, rfl⟩ := ry
  obtain ⟨its, r, pl, hz⟩ := I.tuple hq
  obtain ⟨j, h1, h2, h3, h4, h5⟩ := j7 he
  obtain ⟨w, ew, rw'⟩ := r.get h2
  have hl := r.length
  have hn := uf
  have fin : EP X pins σ Q w s := ⟨z, H, I, rw', q⟩
  exact subscriptTail_builtinR (x := w) pl.typeIs slot_tuple_getitem.lookup
    (getItem_tuple (j := j) (Q := fun r s' => r = w ∧ EP X pins σ Q r s') pl (by omega) (by omega) (by rw [List.size_toArray, ← hl]; exact h1) (by simpa using ew) ⟨rfl, fin⟩) hs
theorem zbt : IxR X zbr := by
  intro value slice pins s σ H x y v u Q I rx ry h hs
  obtain ⟨z, i, c, rfl, rfl, hz, he, q⟩ := h
  obtain ⟨t, rfl⟩ := rx
  obtain ⟨t', rfl⟩ := ry
  obtain ⟨j, h1, h2, h3, h4, h5⟩ := j7 he
  have hl : z.cps.toList.length = z.length := by simp [Str.length]
  rw [hl] at h1 h4 h5
  have hn := uf
  exact tail_any (typeIs_str s z t) slot_str_getitem.lookup (getItem_str (c := c) (by
    have e1 : decide (i < -(2 ^ 63 : Int)) = false := decide_eq_false (by omega)
    have e2 : decide (i ≥ 2 ^ 63) = false := decide_eq_false (by omega)
    rw [e1, e2, Bool.or_false]) (by rw [h1]; simpa using h2) ⟨.str ⟨#[c]⟩, H, I.tok _, ⟨_, rfl⟩, q⟩) hs
theorem Inv.lst {pins : List (Addr × Obj)} {σ : St} {H : Hp} {s : Shared} {p : Addr} {xs : List V} (I : Inv X pins σ H s) (h : H p = some (.lst xs)) :
    ∃ (its : List Value) (n : Nat), Vals xs its ∧ s.heap.get? p = some { cls := .type "list", data := .seq its.toArray n } ∧ xs.length ≤ sizeLine := by
  obtain ⟨z, its, n, r, e⟩ := I.hok p _ h
  exact ⟨its, n, r, e, z⟩
theorem ZK (lo hi : Option Int) (n : Nat) : (sliceBounds lo hi none n).1 = ((HT.sIx n 0 lo : Nat) : Int) ∧ (sliceBounds lo hi none n).2.1 = ((HT.sIx n n hi : Nat) : Int) ∧ (sliceBounds lo hi none n).2.2 = 1 := by
  refine ⟨?_, ?_, rfl⟩
  · cases lo with
    | none => simp [sliceBounds, HT.sIx]
    | some i =>
      simp only [sliceBounds, HT.sIx, Option.getD_none, show (1 : Int) > 0 by decide, if_true]
      by_cases h : i < 0
      · simp only [h, if_true] <;> omega
      · simp only [h, if_false] <;> omega
  · cases hi with
    | none => simp [sliceBounds, HT.sIx]
    | some i =>
      simp only [sliceBounds, HT.sIx, Option.getD_none, show (1 : Int) > 0 by decide, if_true]
      by_cases h : i < 0
      · simp only [h, if_true] <;> omega
      · simp only [h, if_false] <;> omega
theorem k9 (its : List Value) (lo hi : Option Int) : slicePick its.toArray lo hi none = ((its.drop (HT.sIx its.length 0 lo)).take (HT.sIx its.length its.length hi - HT.sIx its.length 0 lo)).toArray := by
  obtain ⟨h1, h2, h3⟩ := ZK lo hi its.toArray.size
  unfold slicePick
  rw [h1, h2, h3]
  simp only [sliceRange_one, pick_run, List.size_toArray] <;> rfl
noncomputable def QK (K : PySem.W.Frag) : V → Option Int → Option Int → Hp → VK → Prop := fun x lo hi H Q => ∃ a xs, x = .ref a ∧ SqL K H a xs ∧ ∀ p, H p = none → Q (.ref p) (upd H p (.lst (j6 xs lo hi)))
theorem K1 : SlR X (QK X.K) := by
  intro pins s σ H x v vl vu lo hi sl Q I rx hs pl pu h
  obtain ⟨a, xs, rfl, hx, q⟩ := h
  cases rx
  obtain ⟨its, r, ht, hz⟩ := I.list hx
  have hlen := r.length
  refine ⟨"list", _, slot_list_getitem.lookup, ht.isList.typeIs, ?_⟩
  refine wpAny_getItem_list_slice ht.isList hs pl pu .none (by simp) ?_ (by rw [List.size_toArray] <;> omega)
  rw [k9, ← hlen]
  refine ⟨.ref s.heap.objs.size, _, I.laid (t' := s.toks) (o := .lst (j6 xs lo hi)) (fun b ob q => Heap.get?_push_of_some _ q) (Nat.le_refl _) ?_, rfl, q _ (I.hok.fresh (Nat.le_refl _))⟩
  exact ⟨Nat.le_trans (YQ xs lo hi) hz, _, 0, (r.drop (HT.sIx xs.length 0 lo)).take (HT.sIx xs.length xs.length hi - HT.sIx xs.length 0 lo), Heap.get?_push_size _ rfl⟩
noncomputable def vq : V → Bool
  | .non => true
  | .bl _ => true
  | .int _ => true
  | .str _ => true
  | _ => false
noncomputable def eqV : V → V → Bool
  | .non, .non => true
  | .bl a, .bl b => a == b
  | .bl a, .int b => (if a then 1 else 0) == b
  | .int a, .bl b => a == (if b then 1 else 0)
  | .int a, .int b => a == b
  | .str a, .str b => a == b
  | _, _ => false
theorem zbu {A : Around} {s : Shared} {y x : V} {u v : Value} (ry : RelV y u) (rx : RelV x v) (fy : vq y = true) (fx : vq x = true) : SeqAt.EqAt A s u v (eqV y x) := by
  cases y with
  | non =>
    cases ry
    cases x with
    | non => cases rx; exact SeqAt.EqAt.same _
    | bl b => cases rx; exact SeqAt.EqAt.none_bool b
    | int b => obtain ⟨t, rfl⟩ := rx; exact SeqAt.EqAt.none_int b t
    | str b => obtain ⟨t, rfl⟩ := rx; exact SeqAt.EqAt.none_str b t
    | _ => exact absurd (show false = true from fx) Bool.false_ne_true
  | bl a =>
    cases ry
    cases x with
    | non => cases rx; exact SeqAt.EqAt.bool_none a
    | bl b => cases rx; exact SeqAt.EqAt.bool_bool a b
    | int b => obtain ⟨t, rfl⟩ := rx; exact SeqAt.EqAt.bool_int a b t
    | str b => obtain ⟨t, rfl⟩ := rx; exact SeqAt.EqAt.bool_str a b t
    | _ => exact absurd (show false = true from fx) Bool.false_ne_true
  | int a =>
    obtain ⟨t', rfl⟩ := ry
    cases x with
    | non => cases rx; exact SeqAt.EqAt.int_none a t'
    | bl b => cases rx; exact SeqAt.EqAt.int_bool a t' b
    | int b => obtain ⟨t, rfl⟩ := rx; exact SeqAt.EqAt.int_int a t' b t
    | str b => obtain ⟨t, rfl⟩ := rx; exact SeqAt.EqAt.int_str a t' b t
    | _ => exact absurd (show false = true from fx) Bool.false_ne_true
  | str a =>
    obtain ⟨t', rfl⟩ := ry
    cases x with
    | non => cases rx; exact SeqAt.EqAt.str_none a t'
    | bl b => cases rx; exact SeqAt.EqAt.str_bool a t' b
    | int b => obtain ⟨t, rfl⟩ := rx; exact SeqAt.EqAt.str_int a t' b t
    | str b => obtain ⟨t, rfl⟩ := rx; exact SeqAt.EqAt.str_str a t' b t
    | _ => exact absurd (show false = true from fx) Bool.false_ne_true
  | _ => exact absurd (show false = true from fy) Bool.false_ne_true
noncomputable def eqU (x : V) (u : Value) : Bool := match u with
  | .none => eqV .non x
  | .bool b => eqV (.bl b) x
  | .int i _ => eqV (.int i) x
  | .str z _ => eqV (.str z) x
  | _ => false
theorem Uk {x y : V} {u : Value} (r : RelV y u) (f : vq y = true) : eqU x u = eqV y x := by
  cases y with
  | non => cases r; rfl
  | bl b => cases r; rfl
  | int i => obtain ⟨t, rfl⟩ := r; rfl
  | str z => obtain ⟨t, rfl⟩ := r; rfl
  | _ => exact absurd (show false = true from f) Bool.false_ne_true
theorem uh {x : V} : ∀ {xs : List V} {us : List Value}, Vals xs us → xs.all vq = true → us.any (eqU x) = xs.any fun y => eqV y x
  | _, _, .nil, _ => rfl
  | y :: xs, u :: us, .cons r t, f => by
    rw [List.all_cons, Bool.and_eq_true] at f
    rw [List.any_cons, List.any_cons, Uk r f.1, uh t f.2]
theorem vy {A : Around} {s : Shared} {x : V} {v : Value} (rx : RelV x v) (fx : vq x = true) : ∀ {xs : List V} {us : List Value}, Vals xs us → xs.all vq = true → ∀ u ∈ us, SeqAt.EqAt A s u v (eqU x u)
  | _, _, .nil, _ => fun u hu => by cases hu
  | y :: xs, u :: us, .cons r t, f => fun u' hu => by
    rw [List.all_cons, Bool.and_eq_true] at f
    rcases List.mem_cons.mp hu with rfl | hu
    · rw [Uk r f.1]; exact zbu r rx f.1 fx
    · exact vy rx fx t f.2 u' hu
noncomputable def inV (x : V) (xs : List V) : Bool := xs.any fun y => eqV y x
noncomputable def rIn (K : PySem.W.Frag) (neg : Bool) : R2 := fun x y H Q => ∃ p xs, y = .ref p ∧ (SqL K H p xs ∨ SqT K H p xs) ∧ vq x = true ∧ xs.all vq = true ∧ Q (.bl (if neg then !inV x xs else inV x xs)) H
theorem Ul : OpR X (compareOp .In) (rIn X.K false) := by
  intro pins s σ H x y v u Q I rx ry h
  obtain ⟨p, xs, rfl, hq, fx, fs, q⟩ := h
  cases ry
  rcases hq with hq | hq
  · obtain ⟨its, r, pl, hz⟩ := I.list hq
    refine SeqAt.in_listAt (eqU x) pl.isList (fun w hw => vy rx fx r fs w (by simpa using hw)) ⟨.bl _, H, I, rfl, ?_⟩
    rw [show its.toArray.any (eqU x) = its.any (eqU x) by simp, uh r fs]
    exact q
  · obtain ⟨its, r, pl, hz⟩ := I.tuple hq
    refine SeqAt.in_tupleAt (eqU x) pl (fun w hw => vy rx fx r fs w (by simpa using hw)) ⟨.bl _, H, I, rfl, ?_⟩
    rw [show its.toArray.any (eqU x) = its.any (eqU x) by simp, uh r fs]
    exact q
theorem ZL : OpR X (compareOp .NotIn) (rIn X.K true) := by
  intro pins s σ H x y v u Q I rx ry h
  obtain ⟨p, xs, rfl, hq, fx, fs, q⟩ := h
  cases ry
  rcases hq with hq | hq
  · obtain ⟨its, r, pl, hz⟩ := I.list hq
    refine SeqAt.notIn_listAt (eqU x) pl.isList (fun w hw => vy rx fx r fs w (by simpa using hw)) ⟨.bl _, H, I, rfl, ?_⟩
    rw [show its.toArray.any (eqU x) = its.any (eqU x) by simp, uh r fs]
    exact q
  · obtain ⟨its, r, pl, hz⟩ := I.tuple hq
    refine SeqAt.notIn_tupleAt (eqU x) pl (fun w hw => vy rx fx r fs w (by simpa using hw)) ⟨.bl _, H, I, rfl, ?_⟩
    rw [show its.toArray.any (eqU x) = its.any (eqU x) by simp, uh r fs]
    exact q
theorem ZM : zJ X (.builtin "len") (fun xs H Q => ∃ p ys, xs = [.ref p] ∧ (SqL X.K H p ys ∨ SqT X.K H p ys) ∧ Q (.int ys.length) H) := by
  intro pins s σ H xs us Q I r h
  obtain ⟨p, ys, rfl, hq, q⟩ := h
  obtain ⟨u, rfl, rx⟩ := xt r
  cases rx
  have hn := uf
  rcases hq with hq | hq
  · obtain ⟨its, r', pl, hz⟩ := I.list hq
    have hlen := r'.length
    exact Calls.call_len_list pl.isList (by simp only [List.size_toArray] <;> omega) ⟨.int ys.length, H, I.tok _, ⟨s.toks + 1, by rw [List.size_toArray, hlen]⟩, q⟩
  · obtain ⟨its, r', pl, hz⟩ := I.tuple hq
    have hlen := r'.length
    exact len_tuple pl (by simp only [List.size_toArray] <;> omega) ⟨.int ys.length, H, I.tok _, ⟨s.toks + 1, by rw [List.size_toArray, hlen]⟩, q⟩
theorem ZN : zJ X (.builtin "len") (fun xs H Q => ∃ z, xs = [.str z] ∧ z.length ≤ sizeLine ∧ Q (.int z.length) H) := by
  intro pins s σ H xs us Q I r h
  obtain ⟨z, rfl, hz, q⟩ := h
  obtain ⟨u, rfl, t, rfl⟩ := xt r
  have hn := uf
  exact len_str (by omega) ⟨.int z.length, H, I.tok _, ⟨_, rfl⟩, q⟩
theorem zJ.or {f : Value} {r r' : List V → Hp → VK → Prop} (h : zJ X f r) (h' : zJ X f r') : zJ X f (fun xs H Q => r xs H Q ∨ r' xs H Q) := by
  intro pins s σ H xs us Q I rs q
  rcases q with q | q
  · exact h pins s σ H xs us Q I rs q
  · exact h' pins s σ H xs us Q I rs q
theorem ZO : zJ X (.type "list") (fun xs H Q => ∃ p ys, xs = [.ref p] ∧ (SqL X.K H p ys ∨ SqT X.K H p ys) ∧ ∀ l, H l = none → Q (.ref l) (upd H l (.lst ys))) := by
  intro pins s σ H xs us Q I r h
  obtain ⟨p, ys, rfl, hq, q⟩ := h
  obtain ⟨u, rfl, rx⟩ := xt r
  cases rx
  have fin : ∀ (its : List Value), Vals ys its → ys.length ≤ sizeLine → ∀ (h' : Heap) (c' : Nat), (∀ b o', s.heap.get? b = some o' → h'.get? b = some o') →
      h'.get? s.heap.objs.size = some { cls := .type "list", dict := none, data := .seq its.toArray c', slots := #[] } → EP X pins σ Q (.ref s.heap.objs.size) { s with heap := h' } := fun its r' hz h' c' kp e =>
    ⟨.ref s.heap.objs.size, _, I.laid (t' := s.toks) kp (Nat.le_refl _) (show zR X.prog X.w _ h' _ (.lst ys) from ⟨hz, its, c', r', e⟩), rfl, q _ (I.hok.fresh (Nat.le_refl _))⟩
  rcases hq with hq | hq
  · obtain ⟨its, r', pl, hz⟩ := I.list hq
    have hlen := r'.length
    obtain ⟨o, ho, hc, n, hd⟩ := pl.isList
    exact call_list_seq p (.inl rfl) ho hc hd (fun h' c' kp e => fin its r' hz h' c' kp e) (by simp only [List.size_toArray] <;> omega)
  · obtain ⟨its, r', pl, hz⟩ := I.tuple hq
    have hlen := r'.length
    obtain ⟨o, ho, hc, n, hd⟩ := pl
    exact call_list_seq p (.inr rfl) ho hc hd (fun h' c' kp e => fin its r' hz h' c' kp e) (by simp only [List.size_toArray] <;> omega)
theorem Za : zJ X (.type "tuple") (fun xs H Q => ∃ p ys, xs = [.ref p] ∧ ((SqL X.K H p ys ∧ ∀ l, H l = none → Q (.ref l) (upd H l (.tup ys))) ∨ (SqT X.K H p ys ∧ Q (.ref p) H))) := by
  intro pins s σ H xs us Q I r h
  obtain ⟨p, ys, rfl, h⟩ := h
  obtain ⟨u, rfl, rx⟩ := xt r
  cases rx
  rcases h with ⟨hq, q⟩ | ⟨hq, q⟩
  · obtain ⟨its, r', pl, hz⟩ := I.list hq
    have hlen := r'.length
    refine call_tuple_list pl.isList (fun h' kp => ?_) (by simp only [List.size_toArray] <;> omega)
    have I1 : Inv X pins σ H { s with heap := h' } := I.kept (t' := s.toks) kp
    have I2 : Inv X pins σ (upd H h'.objs.size (.tup ys)) { s with heap := h'.push { cls := .type "tuple", data := .seq its.toArray } } :=
      I1.laid (t' := s.toks) (fun b o e => Heap.get?_push_of_some _ e) (Nat.le_refl _) (show zR X.prog X.w _ _ _ (.tup ys) from ⟨hz, its, r', IsTup.new _ _⟩)
    exact ⟨.ref h'.objs.size, _, I2, rfl, q _ (I1.hok.fresh (Nat.le_refl _))⟩
  · obtain ⟨its, r', pl, hz⟩ := I.tuple hq
    exact call_tuple_same pl ⟨.ref p, H, I, rfl, q⟩
noncomputable def tyV (K : PySem.W.Frag) (T : String) (x : V) (H : Hp) : Prop := match x with
  | .str _ => T = "str"
  | .int _ => T = "int"
  | .ref p => (T = "list" ∧ ∃ xs, SqL K H p xs) ∨ (T = "tuple" ∧ ∃ o, K.lookup p = some o ∧ o.cls = .type "tuple" ∧ o.dict = none) ∨
      (T = "dict" ∧ ((∃ kvs, H p = some (.dK kvs)) ∨ ∃ kvs, H p = some (.dT kvs))) ∨ (T = "set" ∧ ∃ S n, H p = some (.set S n))
  | _ => False
theorem Um {pins : List (Addr × Obj)} {σ : St} {H : Hp} {s : Shared} {T : String} {x : V} {v : Value} (I : Inv X pins σ H s) (r : RelV x v) (ty : tyV X.K T x H) :
    s.TypeIs v T ∧ ∀ a, v = .ref a → ∃ ob, s.heap.get? a = some ob ∧ ob.dict = none := by
  cases x with
  | str z =>
    obtain ⟨t, rfl⟩ := r
    cases (show T = "str" from ty)
    exact ⟨typeIs_str s z t, fun _ e => nomatch e⟩
  | int i =>
    obtain ⟨t, rfl⟩ := r
    cases (show T = "int" from ty)
    exact ⟨typeIs_int s i t, fun _ e => nomatch e⟩
  | ref p =>
    cases r
    rcases ty with ⟨rfl, xs, hq⟩ | ⟨rfl, o, hk, hc, hd⟩ | ⟨rfl, hk⟩ | ⟨rfl, S, n, hk⟩
    · obtain ⟨its, _, pl, _⟩ := I.list hq
      refine ⟨pl.isList.typeIs, fun a e => ?_⟩
      cases e
      obtain ⟨o, n, e, c, hd, _⟩ := pl
      exact ⟨o, e, hd⟩
    · refine ⟨⟨o, I.kIn p o hk, hc⟩, fun a e => ?_⟩
      cases e
      exact ⟨o, I.kIn _ o hk, hd⟩
    · have z : ∃ o, s.heap.get? p = some o ∧ o.ExactDict := by
        rcases hk with ⟨kvs, hk⟩ | ⟨kvs, hk⟩
        · obtain ⟨_, _, _, _, o, _, _, e, ex, _⟩ := I.hok p _ hk
          exact ⟨o, e, ex⟩
        · obtain ⟨_, _, _, _, o, _, _, e, ex, _⟩ := I.hok p _ hk
          exact ⟨o, e, ex⟩
      obtain ⟨o, e, ex⟩ := z
      refine ⟨⟨o, e, ex.1⟩, fun a e2 => ?_⟩
      cases e2
      exact ⟨o, e, ex.2.1⟩
    · obtain ⟨o, _, _, _, e, ex, _⟩ := I.hok p _ hk
      refine ⟨⟨o, e, ex.1⟩, fun a e2 => ?_⟩
      cases e2
      exact ⟨o, e, ex.2.1⟩
  | _ => exact False.elim ty
noncomputable def QL (K : PySem.W.Frag) (T : String) (r : V → List V → Hp → VK → Prop) (to : TE) : TE := fun σ H Q => to σ H fun x H1 => tyV K T x H1 ∧ r x [] H1 Q
noncomputable def tBM (K : PySem.W.Frag) (T : String) (r : V → List V → Hp → VK → Prop) (to : TE) (t : TA) : TE := fun σ H Q => to σ H fun x H1 => tyV K T x H1 ∧ t σ H1 fun xs H2 => r x xs H2 Q
variable {o e : Expr} {es : List Expr} {to : TE} {t : TA} {name : Str} {apos cpos : Pos} {T id : String} {r : V → List V → Hp → VK → Prop}
theorem zbv (pa : PlainAttrs T) (slot : Slot T name id) (hty : typeOf (.builtin id) = pure (.type "method_descriptor")) (hm : MtR X id r) (ho : PE X o to)
    (hbase : attributeBase o name X.env (eval o X.env) = eval o X.env := by rfl) (hline : (apos.endLine == cpos.line) = true := by rfl) : PE X (.Call (.Attribute o name apos) [] [] cpos) (QL X.K T r to) := by
  intro pins s σ H Q I h
  refine wpAny_Call_method0_late hbase hline (thn (ho pins s σ H _ I h) fun v s1 ⟨x, H1, I1, r1, ty, q1⟩ => ?_)
  obtain ⟨h1, h2⟩ := Um I1 r1 ty
  exact ⟨T, id, pa, slot, hty, h1, h2, Calls.callWith_builtin rfl (PySem.evalArgs_none (hm pins s1 σ H1 x [] v [] Q I1 r1 .nil q1))⟩
theorem X6 (pa : PlainAttrs T) (slot : Slot T name id) (hty : typeOf (.builtin id) = pure (.type "method_descriptor")) (hm : MtR X id r) (ho : PE X o to) (ha : PA X (e :: es) t)
    (hbase : attributeBase o name X.env (eval o X.env) = eval o X.env := by rfl)
    (hfew : ((backTo cpos (starEach (e :: es) X.env)).all (fun x => !x.1) && (backToKw cpos (keywordEach [] X.env)).all (fun x => x.1.isSome)
      && decide ((e :: es).length + ([] : List Keyword).length + (if ([] : List Keyword).isEmpty then 0 else 1) < 30)) = true := by rfl)
    (hline : (apos.endLine == cpos.line) = true := by rfl) (hs : starEach (e :: es) X.env = (false, eval e X.env) :: starEach es X.env := by rfl) (hplain : (backTo cpos (starEach es X.env)).any (·.1) = false := by rfl) :
    PE X (.Call (.Attribute o name apos) (e :: es) [] cpos) (tBM X.K T r to t) := by
  intro pins s σ H Q I h
  refine wpAny_Call_method_late hbase hfew hline rfl (thn (ho pins s σ H _ I h) fun v s1 ⟨x, H1, I1, r1, ty, q1⟩ => ?_)
  obtain ⟨h1, h2⟩ := Um I1 r1 ty
  refine ⟨T, id, pa, slot, hty, h1, h2, ?_⟩
  have hA := ha cpos pins s1 σ H1 _ I1 q1
  rw [hs] at hA ⊢
  refine Calls.callWith_builtin (by show (false || (backTo cpos (starEach es X.env)).any (·.1)) = false; rw [hplain] <;> rfl) (Calls.evalArgs_plain ?_)
  exact thn hA fun us s2 ⟨vs, H2, I2, r2, q2⟩ => hm pins s2 σ H2 x vs v us Q I2 r1 r2 q2
end
end L2
namespace L2
open PySem PySem.Spec PyProof.Rows
noncomputable def MtM (X : Cx) (id : String) (r : V → List V → Hp → VK → Prop) : Prop :=
  ∀ (pins : List (Addr × Obj)) (s : Shared) (σ : St) (H : Hp) (x : V) (xs : List V) (v : Value) (us : List Value) (Q : VK), Inv X pins σ H s → RelV x v → Vals xs us → r x xs H Q →
    wpAny (model X.prog X.w) X.A (call (.builtin id) (v :: us)) (EP X pins σ Q) X.xe s
theorem Vals.one : ∀ {x : V} {us : List Value}, Vals [x] us → ∃ u, us = [u] ∧ RelV x u
  | _, _, .cons r .nil => ⟨_, rfl, r⟩
theorem Vals.two : ∀ {x y : V} {us : List Value}, Vals [x, y] us → ∃ u v, us = [u, v] ∧ RelV x u ∧ RelV y v
  | _, _, _, .cons r (.cons q .nil) => ⟨_, _, rfl, r, q⟩
theorem Vals.zero : ∀ {us : List Value}, Vals [] us → us = []
  | _, .nil => rfl
theorem Vals.reverse {xs : List V} {us : List Value} (h : Vals xs us) : Vals xs.reverse us.reverse := by
  induction h with
  | nil => exact .nil
  | cons r t ih => rw [List.reverse_cons, List.reverse_cons]; exact Vals.append ih (.cons r .nil)
theorem Vals.rep {xs : List V} {us : List Value} (h : Vals xs us) : ∀ k : Nat, Vals (List.replicate k xs).flatten (List.replicate k us).flatten
  | 0 => .nil
  | k + 1 => by
    rw [List.replicate_succ, List.replicate_succ, List.flatten_cons, List.flatten_cons]
    exact Vals.append h (Vals.rep h k)
theorem uX (its : List Value) : ∀ (k : Nat) (acc : List Value),
    List.foldl (fun x1 x2 => x1 ++ x2) acc.toArray (List.replicate k its.toArray) = (acc ++ (List.replicate k its).flatten).toArray
  | 0, acc => by simp
  | k + 1, acc => by
    have e : acc.toArray ++ its.toArray = (acc ++ its).toArray := by simp
    have e2 : (acc ++ its) ++ (List.replicate k its).flatten = acc ++ (List.replicate (k + 1) its).flatten := by
      rw [List.replicate_succ, List.flatten_cons, List.append_assoc]
    rw [← e2, ← uX its k (acc ++ its), ← e, List.replicate_succ, List.foldl_cons]
section
variable {X : Cx} {pins : List (Addr × Obj)} {σ : St} {H : Hp} {s : Shared} {l b : Addr} {xs ys zs : List V}
theorem Inv.lset {its its' : List Value} {n : Nat} {f : Array Value → Array Value} {t' : Nat} (I : Inv X pins σ H s) (hH : H l = some (.lst xs))
    (e : s.heap.get? l = some { cls := .type "list", data := .seq its.toArray n }) (hf : f its.toArray = its'.toArray) (hv : Vals ys its') (hz : ys.length ≤ sizeLine) :
    Inv X pins σ (upd H l (.lst ys)) { s with heap := s.heap.update l (Obj.mapSeq f), toks := t' } := by
  have q := PySem.IsL.update e f
  rw [hf] at q
  refine I.write (x := l) (e := l) (by rw [hH]; exact trivial) (.inl rfl) (fun b' u hb hu => (Heap.get?_update_other s.heap (Obj.mapSeq f) (Ne.symm hb)).trans hu) ⟨_, q⟩ ?_
  exact ⟨hz, its', _, hv, q⟩
theorem Inv.lnew {its : List Value} {t' : Nat} (I : Inv X pins σ H s) (hv : Vals ys its) (hz : ys.length ≤ sizeLine) :
    Inv X pins σ (upd H s.heap.objs.size (.lst ys)) { s with heap := s.heap.push { cls := .type "list", data := .seq its.toArray }, toks := t' } :=
  I.laid (fun _ _ q => Heap.get?_push_of_some _ q) (Nat.le_refl _) ⟨hz, its, 0, hv, Heap.get?_push_size _ rfl⟩
theorem Inv.fresh (I : Inv X pins σ H s) : H s.heap.objs.size = none := I.hok.fresh (Nat.le_refl _)
theorem Inv.lstM (I : Inv X pins σ H s) (hH : H l = some (.lst xs)) : xs.length ≤ sizeLine ∧ ∃ (its : List Value) (n : Nat), Vals xs its ∧ xs.length = its.length ∧ s.heap.get? l = some { cls := .type "list", data := .seq its.toArray n } := by
  obtain ⟨z, its, n, r, e⟩ := I.hok l _ hH
  exact ⟨z, its, n, r, r.length, e⟩
theorem qV {n : Nat} (h : n ≤ sizeLine) : Builtin.List.listTooLong n = false := by
  unfold Builtin.List.listTooLong
  exact decide_eq_false (by omega)
end
section
variable {X : Cx}
noncomputable def qw : V → List V → Hp → VK → Prop := fun x vs H Q => ∃ l xs y, x = .ref l ∧ vs = [y] ∧ H l = some (.lst xs) ∧ xs.length < sizeLine ∧ Q .non (upd H l (.lst (xs ++ [y])))
theorem yk : MtM X "list.append" qw := by
  intro pins s σ H x vs v us Q I rx rv h
  obtain ⟨l, xs, y, rfl, rfl, hH, hz, q⟩ := h
  cases rx
  obtain ⟨u, rfl, ru⟩ := rv.one
  obtain ⟨z, its, n, r, hl, e⟩ := I.lstM hH
  refine call_meets F.slot_list_append ⟨_, e, rfl⟩ F.entry_list_append (F.args_list_append_2 _ _) (PySem.list_append l its.toArray n u (by rw [List.size_toArray]; omega)) ⟨e, ?_⟩
  refine ⟨.non, _, I.lset (its' := its ++ [u]) hH e (by simp) (r.append (.cons ru .nil)) ?_, rfl, q⟩
  rw [List.length_append, List.length_singleton]
  omega
noncomputable def Xj : V → List V → Hp → VK → Prop := fun x vs H Q => ∃ l b xs zs, x = .ref l ∧ vs = [.ref b] ∧ H l = some (.lst xs) ∧ H b = some (.lst zs) ∧ xs.length + zs.length ≤ sizeLine ∧ Q .non (upd H l (.lst (xs ++ zs)))
theorem Uo : MtM X "list.extend" Xj := by
  intro pins s σ H x vs v us Q I rx rv h
  obtain ⟨l, b, xs, zs, rfl, rfl, hH, hB, hz, q⟩ := h
  cases rx
  obtain ⟨u, rfl, ru⟩ := rv.one
  cases ru
  obtain ⟨z, its, n, r, hl, e⟩ := I.lstM hH
  obtain ⟨z2, its2, n2, r2, hl2, e2⟩ := I.lstM hB
  have hsz : its.toArray.size + its2.toArray.size ≤ sizeLine := by rw [List.size_toArray, List.size_toArray]; omega
  have hlong : ¬ (!its.toArray.isEmpty && Builtin.List.listTooLong (its.toArray.size + its2.toArray.size)) = true := by
    rw [qV hsz, Bool.and_false]
    exact Bool.false_ne_true
  refine call_meets F.slot_list_extend ⟨_, e, rfl⟩ F.entry_list_extend (F.args_list_extend_2 _ _)
    (AutoSeq1.list_extend_list_list_0 l its.toArray n b its2.toArray n2 hlong (by rw [List.size_toArray]; omega) (by omega)) ⟨e, e2, ?_⟩
  refine ⟨.non, _, I.lset (its' := its ++ its2) hH e (by simp) (r.append r2) ?_, rfl, q⟩
  rw [List.length_append]
  omega
noncomputable def Uq : V → List V → Hp → VK → Prop := fun x vs H Q => ∃ l xs, x = .ref l ∧ vs = [] ∧ H l = some (.lst xs) ∧ Q .non (upd H l (.lst []))
theorem QM : MtM X "list.clear" Uq := by
  intro pins s σ H x vs v us Q I rx rv h
  obtain ⟨l, xs, rfl, rfl, hH, q⟩ := h
  cases rx
  have hus := rv.zero
  subst hus
  obtain ⟨z, its, n, r, hl, e⟩ := I.lstM hH
  refine call_meets F.slot_list_clear ⟨_, e, rfl⟩ F.entry_list_clear (F.args_list_clear_1 _) (AutoSeq1.list_clear_list_0 l its.toArray n (by rw [List.size_toArray]; omega)) ⟨e, ?_⟩
  exact ⟨.non, _, I.lset (its' := []) (ys := []) hH e rfl .nil (Nat.zero_le _), rfl, q⟩
noncomputable def zbw : R2 := fun x y H Q => ∃ l k xs, x = .ref l ∧ y = .int k ∧ H l = some (.lst xs) ∧ -(2 ^ 63) ≤ k ∧ k < 2 ^ 63 ∧ xs.length * k.toNat ≤ sizeLine ∧
  ∀ p, H p = none → Q (.ref p) (upd H p (.lst (List.replicate k.toNat xs).flatten))
theorem Xk {α : Type} (xs : List α) (k : Nat) : (List.replicate k xs).flatten.length = k * xs.length := by
  induction k with
  | zero => simp
  | succ k ih => rw [List.replicate_succ, List.flatten_cons, List.length_append, ih, Nat.succ_mul, Nat.add_comm]
theorem zbx : OpR X (binaryOp .Mult) zbw := by
  intro pins s σ H x y v u Q I rx ry h
  obtain ⟨l, k, xs, rfl, rfl, hH, h1, h2, hz, q⟩ := h
  cases rx
  obtain ⟨t, rfl⟩ := ry
  obtain ⟨z, its, n, r, hl, e⟩ := I.lstM hH
  have hlen : its.toArray.size * k.toNat ≤ sizeLine := by rw [List.size_toArray, ← hl]; exact hz
  have hcap : ¬ its.toArray.size * k.toNat > (2 ^ 63 - 1) / 8 := by
    have : (sizeLine : Nat) ≤ (2 ^ 63 - 1) / 8 := by decide
    omega
  have hfit : ¬ (!Builtin.List.listFitsIndex k) = true := by
    rw [fitsIndex_both h1 h2]
    exact Bool.false_ne_true
  have hlong : ¬ Builtin.List.listTooLong (its.toArray.size * k.toNat) = true := by
    rw [qV hlen]
    exact Bool.false_ne_true
  have hnew : List.foldl (fun x1 x2 => x1 ++ x2) #[] (List.replicate (if its.toArray.isEmpty = true then 0 else k.toNat) its.toArray) = (List.replicate k.toNat its).flatten.toArray := by
    have f0 : ∀ m : Nat, List.foldl (fun x1 x2 => x1 ++ x2) #[] (List.replicate m its.toArray) = (List.replicate m its).flatten.toArray := fun m => by
      have := uX its m []
      rw [List.nil_append] at this
      exact this
    rw [f0]
    cases its with
    | nil => simp
    | cons a r' => rw [if_neg (by simp)]
  refine wpAny_binaryOp_repeat_ref (T := "list") (U := "int") (by decide) ⟨_, e, rfl⟩ (fun s' => typeIs_int s' k t) noFill_list_mul F.fills_int_mul F.slot_int_rmul repeat_list F.slot_int_index.lookup
    (call_meets F.slot_int_rmul (typeIs_int s k t) F.entry_int_rmul (F.args_int_rmul_2 _ _) (int___rmul___int_list k t l its.toArray n)
      ⟨e, rfl, ⟨_, e, rfl⟩, call_meets F.slot_list_mul ⟨_, e, rfl⟩ F.entry_list_mul (F.args_list_mul_2 _ _) (AutoListH.list___mul___list_int_3 l its.toArray n k t hfit hcap hlong) ⟨e, ?_⟩⟩)
  rw [hnew]
  exact ⟨.ref _, _, I.lnew (t' := s.toks) (r.rep k.toNat) (by rw [Xk, Nat.mul_comm]; exact hz), rfl, q _ I.fresh⟩
end
section
variable {prog : Program} {w : World} {A : Around} {E : Value → Shared → Prop} {s : Shared}
end
section
variable {X : Cx}
end
end L2
namespace Att
open PySem PySem.W PySem.Calls PyProof.Rows
theorem jt {P : Params} {h : Heap} : ∀ (ns : List Int) (vs : List Value), WellAll P h vs (ns.map WData.int) → IntsAre vs ns := by
  intro ns
  induction ns with
  | nil =>
    intro vs w
    rw [List.map_nil] at w
    cases w
    exact .nil
  | cons n ns ih =>
    intro vs w
    rw [List.map_cons] at w
    cases w with
    | cons a b =>
      cases a
      exact .cons _ _ (ih _ b)
theorem Ur {l : OpenLaw} {n : Nat} (hn : l.most = some n) {P : Params} {h : Heap} {args : List WData} {vals : List Value}
    (hpre : l.row.toRowW.claim.pre args = true) (hwl : WellAll P h vals args) :
    ∃ a vs ns, vals = [Value.ref a] ∧ args = [WData.list (ns.map WData.int)] ∧ h.get? a = some { cls := .type "list", data := .seq vs.toArray } ∧ IntsAre vs ns ∧ ns.length ≤ n := by
  have hsh : WShape.hasAll [] args [.list .int] = true := (pre_splitW hpre).1
  have hc : l.pre.holds [] { args := args } = true := (pre_splitW hpre).2
  obtain ⟨d, r, rfl, h1, h2⟩ := hasAllW_cons hsh
  obtain rfl := hasAllW_nil h2
  obtain ⟨xs, rfl, h3⟩ := hasW_list h1
  obtain ⟨ns, rfl⟩ := items_int h3
  have hlen : ns.length ≤ n := by
    unfold OpenLaw.pre at hc
    have h4 : (WTm.not (.lt (.lit (.int (n : Int))) (.len (.arg 0)))).holds [] { args := [.list (ns.map .int)] } = true := by
      have h4 := (holds_andW hc).1
      rw [hn] at h4
      exact h4
    have h5 := condW_of h4 (w_not (w_lt w_lit (w_len_list (w_arg rfl))))
    rw [List.length_map] at h5
    refine Nat.le_of_not_lt fun q => ?_
    have q' : (n : Int) < ((ns.length : Nat) : Int) := by omega
    first
      | (rw [decide_eq_true q'] at h5; exact absurd h5 (by decide))
      | (simp at h5; omega)
  cases hwl with
  | cons w1 w2 =>
    cases w2
    cases w1 with
    | list ho hall => exact ⟨_, _, ns, rfl, rfl, ho, jt ns _ hall, hlen⟩
theorem Us (l : OpenLaw) (args : List WData) : l.row.toRowW.claim.post args (.bool true) args = true :=
  postW_of (r := l.row.toRowW) (X := (true == true))
    (show WShape.has [] (.bool true) .bool = true by first | rfl | decide | simp [WShape.has, WShape.arms, WShape.armsAll])
    (show (WTm.eq .res (.lit (.bool true))).value [] { args := args, res := some (.bool true), after := args } = some (.bool (true == true)) from w_eq_bool (w_res rfl) w_lit) rfl
section
variable {prog : Program} {w : World} {A : Around} {E : Value → Shared → Prop} {s : Shared} {K : Frag}
noncomputable def zdB (h : Heap) (L d : Addr) : List (Addr × Obj) := (List.range h.objs.size).filterMap fun a => if a = L ∨ a = d then none else (h.get? a).map fun o => (a, o)
end
end Att
namespace L2
open PySem PySem.Spec PyProof.Rows
theorem kL : ∀ {vs : List Value} {ns : List Int}, IntsAre vs ns → Vals (ns.map V.int) vs
  | _, _, .nil => .nil
  | _, _, .cons n t h => .cons ⟨t, rfl⟩ (kL h)
noncomputable def zby (H : Hp) : Prop := ∀ b, H b = none ∨ ∃ o xs, H b = some (.frz o (.lst xs))
theorem QN {P : Program} {w : World} {K : PySem.W.Frag} {mg mb : Str → Option Value} {CX : CXT} {k : Nat} {fa a : Addr} {fd : FuncData} {x : Str} {sp : Sp} {s₁ : Shared} {vs : List Value} {ns : List Int}
    (KX : K.In s₁.heap) (hns : s₁.heap.Ns mainGlobals mg) (hb : s₁.heap.Ns builtinsNs mb) (hbb : ∀ x : Str, x ≠ "__name__" → mb x = bootBuiltins x) (hlim : s₁.heap.NoLimit) (hg : s₁.gens = #[])
    (ha : s₁.heap.get? a = some { cls := .type "list", data := .seq vs.toArray }) (hi : IntsAre vs ns) (hl : ns.length ≤ sizeLine) (hr : Room k callerA)
    (F : ∀ base : Heap, K.In base → base.Ns mainGlobals mg → FnOk P w K mg base CX k fa fd [x] sp) (hbind : ∀ (s : Shared) (u : Value), BindsTo s fd ⟨[u], []⟩ [(x, u)])
    (hsp : ∀ H : Hp, zby H → SqL K H a (ns.map V.int) → sp [.ref a] H (fun v _ => v = .bl true) fun _ _ _ => False)
    (hCX : ∀ H e s', CX [] H s₁ (fun _ _ _ => False) e s' → False) :
    codeAny (model P w) callerA (.call (.ref fa) ⟨[.ref a], []⟩) (fun r s' => r = .ok (.ret (.bool true)) ∧ OldK s₁.heap s'.heap ∧ s'.os = s₁.os ∧ AllBare s'.gens) s₁ := by
  have rv := kL hi
  have lenV := hi.length
  have core : ∀ H : Hp, zby H → SqL K H a (ns.map V.int) → HOk P w H s₁.heap → (∀ b, H b ≠ none → b = a) → (H a ≠ none → K.lookup a = none) →
      codeAny (model P w) callerA (.call (.ref fa) ⟨[.ref a], []⟩) (fun r s' => r = .ok (.ret (.bool true)) ∧ OldK s₁.heap s'.heap ∧ s'.os = s₁.os ∧ AllBare s'.gens) s₁ := by
    intro H hO hS hok hA hK
    have base_of : ∀ {b : Addr} {o : Obj}, s₁.heap.get? b = some o → H b = none → (uw s₁.heap H).get? b = some o := fun e n => Qx e n
    have noA : ∀ {b : Addr} {o : Obj} {es : Array DictEntry} {ep : Nat}, s₁.heap.get? b = some o → o.data = .dict es ep → H b = none := fun {b o es ep} e d => by
      cases q : H b with
      | none => rfl
      | some u =>
        have e' : b = a := hA b (by rw [q]; simp)
        subst e'
        rw [ha] at e; cases e
        have d' : Data.seq vs.toArray _ = Data.dict es ep := d
        cases d'
    have nsK : ∀ {b : Addr} {m : Str → Option Value}, s₁.heap.Ns b m → (uw s₁.heap H).Ns b m := fun {b m} ⟨o, es, ep, e, d, r⟩ => ⟨o, es, ep, base_of e (noA e d), d, r⟩
    have hKb : K.In (uw s₁.heap H) := fun b o e => base_of (KX b o e) (by
      cases q : H b with
      | none => rfl
      | some u =>
        have e' : b = a := hA b (by rw [q]; simp)
        subst e'
        rw [hK (by rw [q]; simp)] at e; cases e)
    have hM : Mod K mg (uw s₁.heap H) := ⟨hKb, nsK hns, ⟨mb, nsK hb, hbb⟩, let ⟨mc, h1, h2⟩ := hlim; ⟨mc, nsK h1, h2⟩⟩
    have e0 : Env0 P w K mg (uw s₁.heap H) callerA [] s₁ H := ⟨rfl, hM, fun b o e => KP e, Nat.le_of_eq (V4 _ _), trivial, fun b hb => absurd (show b ∈ ([] : List Addr) from hb) (by simp), hok, .of_eq hg⟩
    refine codeAny_mono ((F _ hKb (nsK hns)).run callerA [] s₁ H ⟨[.ref a], []⟩ [.ref a] [.ref a] _ _ hr e0 (hbind s₁ (.ref a)) (.cons rfl .nil) (hsp H hO hS)) fun r s' h => ?_
    cases r with
    | error e => exact (hCX H e s' h).elim
    | ok fl =>
      cases fl with
      | next => exact False.elim h
      | brk => exact False.elim h
      | cont => exact False.elim h
      | ret u =>
        obtain ⟨v, H', os, bare, un, hok', r', q⟩ := h
        have q' : v = .bl true := q
        subst q'
        obtain rfl : u = Value.bool true := r'
        refine ⟨rfl, OldK.of_keep fun b o e => ?_, os, bare⟩
        cases q : H b with
        | none => exact un.keep b o e q (by intro z; exact absurd (show b ∈ ([] : List Addr) from z) (by simp)) (by simp)
        | some u =>
          rcases hO b with z | ⟨ob, xs, z⟩
          · rw [q] at z; cases z
          · have z2 := un.frzs b ob _ z
            obtain ⟨e1, _⟩ := hok b _ z
            obtain ⟨e2, _⟩ := hok' b _ z2
            rw [e] at e1; cases e1
            exact e2
  cases hk : K.lookup a with
  | some o =>
    have e := KX a o hk
    rw [ha] at e
    cases e
    refine core (fun _ => none) (fun _ => .inl rfl) (.inr ⟨_, vs.toArray, _, hk, rfl, rfl, rfl, by rw [List.size_toArray, lenV]; exact hl, by simpa using rv⟩) (fun b u z => by have z' : (none : Option HO) = some u := z; cases z') (fun b z => absurd rfl z) fun z => absurd rfl z
  | none =>
    refine core (fun b => if b = a then some (.frz { cls := .type "list", data := .seq vs.toArray } (.lst (ns.map V.int))) else none) (fun b => ?_) (.inl (.inr ⟨{ cls := .type "list", data := .seq vs.toArray }, if_pos rfl⟩)) (fun b u z => ?_) (fun b z => ?_) fun _ => hk
    · by_cases hb : b = a
      · exact .inr ⟨_, _, if_pos hb⟩
      · exact .inl (if_neg hb)
    · by_cases hb : b = a
      · have z' := (if_pos hb).symm.trans z
        cases z'
        subst hb
        exact ⟨ha, by rw [List.length_map]; exact hl, vs, _, rv, ha⟩
      · have z' := (if_neg hb).symm.trans z
        cases z'
    · by_cases hb : b = a
      · exact hb
      · exact absurd (if_neg hb) z
end L2
namespace L2
open PySem PySem.Spec PyProof.Rows
end L2
namespace L2
open PySem PySem.Spec PyProof.Rows
noncomputable def defArgs (s : Stmt) : Arguments := match s with
  | .FunctionDef _ a _ _ _ _ _ _ _ _ => a
  | _ => { posonlyargs := [], args := [], vararg := none, kwonlyargs := [], kw_defaults := [], kwarg := none, defaults := [] }
noncomputable def defBody (s : Stmt) : List Stmt := match s with
  | .FunctionDef _ _ b _ _ _ _ _ _ _ => b
  | _ => []
noncomputable def defScope (s : Stmt) : Scope := match s with
  | .FunctionDef _ _ _ _ _ _ sc _ _ _ => sc
  | _ => { kind := .function, names := [], isGenerator := false, isCoroutine := false }
noncomputable abbrev CX0 : CXT := fun _ _ _ _ _ _ => False
noncomputable abbrev E0 : XK := fun _ _ _ => False
theorem zcT {X : Cx} : ug CX0 X E0 := fun _ _ _ _ _ _ _ h => h.elim
structure Fun (K : PySem.W.Frag) (x qual : Str) (st : Stmt) (f : Addr) (fd : FuncData) : Prop where
  ex : ∃ (oc : Value) (od : Option Addr) (kV doc pm : Value) (an : Option Addr) (cdv ct : Value) (osl : Array (Option Value)),
    fd = PySem.W.fnOf x qual (defArgs st) (defBody st) (defScope st) .none kV doc pm an cdv ct ∧ K.lookup f = some ⟨oc, od, .func fd, osl⟩ ∧ PySem.W.codeIn K cdv qual = true
  kp : PySem.W.keepIn K (.ref f) = true
section
variable {P : Program} {w : World} {K : PySem.W.Frag} {mg : Str → Option Value} {base : Heap}
theorem Fun.ok {x qual : Str} {st : Stmt} {f : Addr} {fd : FuncData} {N ps : List Str} {k : Nat} {sp : Sp} (F : Fun K x qual st f fd) (S : FnScope N ps (defScope st)) (len : ∀ vs H Q E, sp vs H Q E → vs.length = ps.length)
    (hbody : ∀ (cdv : Value) (A : Around) (outer : List Env) (s : Shared) (H : Hp) (vs : List V) (Q : VK) (E : XK), Room k (A.deeper (envOfC qual (defScope st) s.heap.objs.size f cdv)) → sp vs H Q E →
      ∃ t, PSs (y6 CX0 P w K mg base N qual (defScope st) f cdv A outer s H E).nox (defBody st) t ∧ t { nx := fun _ H' => Q .non H', rt := Q } (start N vs) H) : FnOk P w K mg base CX0 (k + 1) f fd ps sp := by
  obtain ⟨oc, od, kV, doc, pm, an, cdv, ct, osl, rfl, lk, hcd⟩ := F.ex
  refine Zk lk hcd S len fun A outer s H vs Q E hr hsp => ?_
  obtain ⟨t, h, q⟩ := hbody cdv A outer s H vs Q E hr hsp
  exact ⟨t, h.nox, q⟩
theorem Fun.binds {x qual : Str} {st : Stmt} {f : Addr} {fd : FuncData} {ps : List Str} (F : Fun K x qual st f fd)
    (h : ∀ (kV doc pm : Value) (an : Option Addr) (cdv ct : Value) (us : List Value), us.length = ps.length → bindArgs (PySem.W.fnOf x qual (defArgs st) (defBody st) (defScope st) .none kV doc pm an cdv ct) ⟨us, []⟩ = pure (ps.zip us)) : Binds K fd ps [] := by
  obtain ⟨oc, od, kV, doc, pm, an, cdv, ct, osl, rfl, lk, hcd⟩ := F.ex
  exact .all (h kV doc pm an cdv ct)
theorem zbz {x qual : Str} {st : Stmt} {f : Addr} {oc : Value} {od an : Option Addr} {osl : Array (Option Value)} {kV doc pm cdv ct : Value} (l : K.lookup f = some ⟨oc, od, .func (PySem.W.fnOf x qual (defArgs st) (defBody st) (defScope st) .none kV doc pm an cdv ct), osl⟩)
    (c : PySem.W.codeIn K cdv qual = true) (k : PySem.W.keepIn K (.ref f) = true) : Fun K x qual st f (PySem.W.fnOf x qual (defArgs st) (defBody st) (defScope st) .none kV doc pm an cdv ct) := ⟨⟨oc, od, kV, doc, pm, an, cdv, ct, osl, rfl, l, c⟩, k⟩
end
theorem xj {n : Nat} (h : n ≤ 1000) : n < sizeLine := Nat.lt_of_le_of_lt h (by decide)
section
variable {X : Cx}
theorem pv (i : Nat) {x : Str} {pos : Pos} (hN : X.N[i]? = some x := by rfl) (hv : Vis X.env.scope x := by first | exact Or.inl rfl | exact Or.inr (Or.inl rfl) | exact Or.inr (Or.inr rfl)) (hd : (x == ("__debug__" : Str)) = false := by decide)
    (hcd : (x == ("__classdict__" : Str)) = false := by decide) : PE X (.Name x pos) (jY i) := zbf hN hv hd hcd
end
noncomputable def Same (H H' : Hp) : Prop := ∀ b o, H b = some o → H' b = some o
theorem Same.refl (H : Hp) : Same H H := fun _ _ h => h
theorem Same.trans {H H1 H2 : Hp} (a : Same H H1) (b : Same H1 H2) : Same H H2 := fun c o h => b c o (a c o h)
theorem Same.free {H H' : Hp} (e : Same H H') {l : Addr} (h : H' l = Option.none) : H l = Option.none := by
  cases q : H l with
  | none => rfl
  | some o =>
    rw [e l o q] at h
    cases h
theorem Same.seq {K : PySem.W.Frag} {H H' : Hp} {a : Addr} {xs : List V} (e : Same H H') (h : SqL K H a xs) : SqL K H' a xs := by
  rcases h with (h | ⟨o, h⟩) | h
  · exact .inl (.inl (e _ _ h))
  · exact .inl (.inr ⟨o, e _ _ h⟩)
  · exact .inr h
end L2
namespace L2
open PySem PySem.Spec PyProof.Rows
theorem K2 {prog : Program} {w : World} {A : Around} {R : Result → Shared → Prop} {s : Shared} {elt tg iter : Expr} {ifs : List Expr} {scope : Scope} {pos : Pos} {it acc : Value} {env : Env} (J : Nat → Shared → Prop)
    (turn : ∀ k s0, J k s0 → wpAny (model prog w) A (pyNext it) (fun r s1 => match r with
      | none => R (.ok .next) s1
      | some v => wpAny (model prog w) A (letOwnedTupleGo tg it v) (fun _ s2 => wpAny (model prog w) A (assign tg env v) (fun _ s3 =>
          wpAny (model prog w) A (forIn ifs true fun c r => if r = true then do let ok ← isTrue c env (eval c env); pure (ForInStep.yield ok) else pure (ForInStep.yield r)) (fun ok s4 =>
            if ok = true then wpAny (model prog w) A (eval elt env) (fun x s5 => wpAny (model prog w) A (call (.builtin "list.append") [acc, x]) (fun _ s6 => ∃ j, j < k ∧ J j s6) (fun _ _ => False) s5) (fun _ _ => False) s4
            else ∃ j, j < k ∧ J j s4) (fun _ _ => False) s3) (fun _ _ => False) s2) (fun _ _ => False) s1) (fun _ _ => False) s0)
    (k : Nat) (h : J k s) : codeAny (model prog w) A (.compLoop (.ListComp elt [⟨tg, iter, ifs, 0⟩] scope pos) 0 it acc env) R s := by
  refine codeAny_loop rfl J (fun k0 s0 hJ => ?_) k h
  show wpAny _ A ((compTurn (.ListComp elt [⟨tg, iter, ifs, 0⟩] scope pos) 0 it acc env).onRaise (fun x => do noteFrame x env; theTreesLotGoes x)) _ _ s0
  refine wpAny_noted ?_
  rw [compTurn_list]
  refine wpAny_bind (wpAny_standAt (wpAny_bind (wpAny_mono (turn k0 s0 hJ) (fun r s1 h1 => ?_) fun _ _ f => f.elim)))
  cases r with
  | none => exact wpAny_pure h1
  | some v =>
    refine wpAny_bind (wpAny_mono h1 (fun _ s2 h2 => wpAny_bind (wpAny_mono h2 (fun _ s3 h3 => wpAny_bind (wpAny_mono h3 (fun ok s4 h4 => ?_) fun _ _ f => f.elim)) fun _ _ f => f.elim)) fun _ _ f => f.elim)
    cases ok with
    | false => exact wpAny_pure ⟨rfl, h4⟩
    | true => exact wpAny_bind (wpAny_bind (wpAny_mono h4 (fun x s5 h5 => wpAny_bind (wpAny_mono h5 (fun _ s6 h6 => wpAny_pure (wpAny_pure ⟨rfl, h6⟩)) fun _ _ f => f.elim)) fun _ _ f => f.elim))
noncomputable def PTs (X : Cx) (ifs : List Expr) (t : TT) : Prop :=
  ∀ (pins : List (Addr × Obj)) (s : Shared) (σ : St) (H : Hp) (Q : Bool → Hp → Prop), Inv X pins σ H s → t σ H Q →
    wpAny (model X.prog X.w) X.A (forIn ifs true fun c r => if r = true then do let ok ← isTrue c X.env (eval c X.env); pure (ForInStep.yield ok) else pure (ForInStep.yield r)) (TP X pins σ Q) X.xe s
noncomputable def zbA : TT := fun _ H Q => Q true H
theorem zV {X : Cx} : PTs X [] zbA := fun _ _ _ H _ I h => wpAny_tests_nil ⟨H, I, h⟩
theorem Xl {X : Cx} {c : Expr} {t : TT} (h : PT X c t) : PTs X [c] t := fun pins s σ H Q I hw => wpAny_tests_one (h pins s σ H Q I hw)
noncomputable def zN (X : Cx) (N : List Str) (scope : Scope) (cl : List (Str × Addr)) (C : Addr) (s : Shared) (H : Hp) (fp : List Addr) : Cx where
  prog := X.prog
  w := X.w
  K := X.K
  mg := X.mg
  base := X.base
  A := X.A
  N := N
  s₀ := s
  H₀ := H
  env := compEnvC scope cl C X.env
  outer := X.stack
  stack := X.stack
  ex := fp
  fn := fun _ => false
  calm := X.calm
  pn := []
  xe := fun _ _ => False
noncomputable def ux (n : Nat) (js : List Nat) (σ : St) : St := List.replicate n none ++ js.map fun j => (σ[j]?).join
structure LcOk (X : Cx) (N : List Str) (n : Nat) (js : List Nat) (scope : Scope) (cl : List (Str × Addr)) : Prop where
  clos : closureFor scope X.env = pure cl
  nocell : ∀ y ∈ scope.names, y.2 ≠ .cell
  kind : scope.kind = .function
  names : ∀ y ∈ scope.names, y.2 = .local → scope.names.lookup y.1 = some .local
  cells : ∀ x c, cl.lookup x = some c → X.env.cells.lookup x = some c
  has : ∀ x, ((relabel scope X.env).names.lookup x = some .cell ∨ (relabel scope X.env).names.lookup x = some .free) → ∃ c, cl.lookup x = some c
  len : n + js.length = N.length
  free : ∀ (i : Nat) (x : Str), N[n + i]? = some x → ∃ j c, js[i]? = some j ∧ X.N[j]? = some x ∧ (X.env.scope.names.lookup x = some .cell ∨ X.env.scope.names.lookup x = some .free) ∧
    ((relabel scope X.env).names.lookup x = some .cell ∨ (relabel scope X.env).names.lookup x = some .free) ∧ cl.lookup x = some c
section
variable {X : Cx} {pins : List (Addr × Obj)} {σ : St} {H : Hp} {s : Shared} {N : List Str} {n : Nat} {js : List Nat} {scope : Scope} {cl : List (Str × Addr)}
theorem LcOk.ok (L : LcOk X N n js scope cl) (I : Inv X pins σ H s) {fp : List Addr} (hf : ∀ b ∈ fp, FpOk X pins H b) (hlt : ∀ b ∈ fp, b < s.heap.objs.size) {C : Addr} (hC : s.heap.objs.size ≤ C) : (zN X N scope cl C s H fp).Ok where
  mod := I.ok.mod
  kind := L.kind
  glob := I.ok.glob
  blt := I.ok.blt
  above := hC
  inj := fun x y c h1 h2 => I.ok.inj x y c (L.cells x c h1) (L.cells y c h2)
  has := fun x hx => L.has x hx
  cab := fun x c hx _ => by cases hx
  hd := I.ok.hd
  frames := I.ok.frames
  stk := .inl rfl
  exf := fun b hb => ⟨Nat.ne_of_lt (Nat.lt_of_lt_of_le (hlt b hb) hC), fun x c e => (hf b hb).2.2.2.2.1 x c (L.cells x c e)⟩
  bs := I.bs
  bsz := Nat.le_trans I.ok.bsz I.sz
  noex := fun b o e hb => by
    rcases (hf b hb).2.2.2.1 with z | z
    · exact I.ok.noex b o e z
    · exact absurd (Nat.lt_of_lt_of_le (Heap.lt_size (I.ok.bs b o e).1) z) (Nat.lt_irrefl _)
  exfs := fun b hb hz => by
    rcases List.mem_cons.mp (I.stkSub b hz) with z | z
    · exact (hf b hb).2.1 z
    · exact (hf b hb).2.2.1 z
  funs := I.stack
  frf := I.stkFree
theorem QO {n : Nat} {js : List Nat} {σ : St} {i : Nat} {v : V} (h : (ux n js σ)[i]? = some (some v)) : ∃ k j, i = n + k ∧ js[k]? = some j ∧ σ[j]? = some (some v) := by
  unfold ux at h
  by_cases hi : i < n
  · rw [List.getElem?_append_left (by simpa using hi), List.getElem?_replicate] at h
    split at h <;> cases h
  · rw [List.getElem?_append_right (by simpa using hi), List.length_replicate, List.getElem?_map] at h
    cases e : js[i - n]? with
    | none => rw [e] at h; cases h
    | some j =>
      rw [e] at h
      refine ⟨i - n, j, by omega, e, ?_⟩
      cases e2 : σ[j]? with
      | none => rw [Option.map_some, e2] at h; cases h
      | some o =>
        rw [Option.map_some, e2] at h
        have h' : o = some v := Option.some.inj h
        rw [h']
theorem Inv.lc (L : LcOk X N n js scope cl) (I : Inv X pins σ H s) {fp : List Addr} (hf : ∀ b ∈ fp, FpOk X pins H b) (hlt : ∀ b ∈ fp, b < s.heap.objs.size) {D C : Addr} {h1 : Heap} {m : Str → Option Value} {tk : Nat}
    (hD : s.heap.objs.size ≤ D) (hC : s.heap.objs.size ≤ C) (hDC : D ≠ C) (hn : h1.Ns C m) (old : ∀ b o, s.heap.get? b = some o → h1.get? b = some o) {k : Nat} (hl : h1.get? D = some { cls := .type "list", data := .seq ([] : List Value).toArray k }) :
    Inv (zN X N scope cl C s H fp) [] (ux n js σ) (upd H D (.lst [])) { s with heap := h1, toks := tk } where
  ok := L.ok I hf hlt hC
  os := rfl
  bare := I.bare
  base := Un.laid old hD (I.hok.fresh hD)
  loc := by
    refine ⟨m, hn, fun i x v e1 e2 e3 => ?_⟩
    obtain ⟨k, j, rfl, ej, eσ⟩ := QO e2
    obtain ⟨j', c, ej', eN, kx, kr, ec⟩ := L.free k x e1
    rw [ej] at ej'
    cases ej'
    obtain ⟨mx, hmx, hl'⟩ := I.loc
    obtain ⟨u, r, lk⟩ := hl' j x v eN eσ (kx.elim (fun z => .inr (.inl z)) fun z => .inr (.inr z))
    refine ⟨u, r, .inr ⟨kr, c, ec, ?_⟩⟩
    have hcx := L.cells x c ec
    rcases lk with ⟨z, _⟩ | ⟨_, c', e', hc'⟩
    · have z' : X.env.scope.names.lookup x = some .local := z
      rcases kx with y | y <;> rw [y] at z' <;> cases z'
    · rw [hcx] at e'
      cases e'
      obtain ⟨o, ho, hd⟩ := hc'
      exact ⟨o, old _ _ ho, hd⟩
  cell := fun x c e => by
    obtain ⟨v, o, ho, hd⟩ := I.cell x c (L.cells x c e)
    exact ⟨v, o, old _ _ ho, hd⟩
  free := by
    show upd H D (.lst []) C = none
    rw [zd (Ne.symm hDC)]
    exact I.hok.fresh hC
  freeC := fun x c e => by
    obtain ⟨v, o, ho, hd⟩ := I.cell x c (L.cells x c e)
    rw [zd (Nat.ne_of_lt (Nat.lt_of_lt_of_le (Heap.lt_size ho) hD))]
    exact I.freeC x c (L.cells x c e)
  pin := fun p hp => absurd (show p ∈ ([] : List (Addr × Obj)) from hp) (by simp)
  hok := I.hok.laid old hD ⟨Nat.zero_le _, [], k, .nil, hl⟩
  len := by
    show (ux n js σ).length = N.length
    unfold ux
    rw [List.length_append, List.length_replicate, List.length_map]
    exact L.len
theorem Inv.unlc {fp : List Addr} {C : Addr} {σ' : St} {H' : Hp} {s' : Shared} {h' : Heap} (I : Inv X pins σ H s) (hf : ∀ b ∈ fp, FpOk X pins H b) (hC : s.heap.objs.size ≤ C) (I' : Inv (zN X N scope cl C s H fp) [] σ' H' s') (hs : Heap.SameBut C s'.heap h') :
    Inv X pins σ H' { s' with heap := h' } := by
  have nC : ∀ b o, s.heap.get? b = some o → b ≠ C := fun b o e => Nat.ne_of_lt (Nat.lt_of_lt_of_le (Heap.lt_size e) hC)
  have hfree : H' C = none := I'.free
  have u := I'.base
  refine I.call' (ch := fp) (s' := { s' with heap := h' }) I'.os ⟨fun b o e n hb hx => ?_, fun b o e n hb hx => ?_, u.free, fun b o e hx => ?_, u.tups, u.frzs, u.tbls⟩ (fun b ob e => ?_) I'.bare fun b hb => ⟨(hf b hb).2.2.2.1, (hf b hb).2.1, (hf b hb).2.2.2.2.1, (hf b hb).2.2.2.2.2⟩
  · exact (hs.2 b (nC b o e)).trans (u.keep b o e n hb hx)
  · obtain ⟨sl, q⟩ := u.slot b o e n hb hx
    exact ⟨sl, (hs.2 b (nC b o e)).trans q⟩
  · obtain ⟨o', q⟩ := u.there b o e hx
    exact ⟨o', (hs.2 b (nC b o e)).trans q⟩
  · refine (I'.hok b ob e).stay (fun c w' hc q => (hs.2 c ?_).trans q) (fun _ q => q) fun _ _ q => q
    rintro rfl
    rcases hc with rfl | hc
    · rw [hfree] at e
      cases e
    · rw [hfree] at hc
      cases hc
noncomputable def tLc (wi : TI) (n : Nat) (js : List Nat) (g : TG) (tt : TT) (te : TE) : TE := fun σ H Q => wi σ H fun J H1 => ∀ D, H1 D = none → ∃ W : Nat → Nat → St → Hp → Prop, (∃ m, W 0 m (ux n js σ) (upd H1 D (.lst []))) ∧ ∀ i m σ' H', W i m σ' H' →
  (J.stop i H' ∧ Q (.ref D) H') ∨ (J.go i H' ∧ ∃ Nx : St → Hp → Prop, (∀ σ2 H2, Nx σ2 H2 → ∃ m', m' < m ∧ W (i + 1) m' σ2 H2) ∧
    ∀ x H2, J.yld i H' x H2 → g x σ' H2 fun σ3 H3 => tt σ3 H3 fun ok H4 => if ok = true then te σ3 H4 fun y H5 => ∃ ys, H5 D = some (.lst ys) ∧ ys.length < sizeLine ∧ Nx σ3 (upd H5 D (.lst (ys ++ [y]))) else Nx σ3 H4)
theorem Xm {elt tg iter : Expr} {ifs : List Expr} {pos : Pos} {g : TG} {tt : TT} {te : TE} {it : Addr} {fp : List Addr} {tn : Nat → Heap → Prop} {J : It} {Q : V → Hp → Prop} {E : Value → Shared → Prop} {RR : Value → Addr → Result → Shared → Prop}
    (L : LcOk X N n js scope cl) (hc : X.calm = true) (I : Inv X pins σ H s) (T : Turn X.prog X.w X.K tg J fp it tn) (t0 : tn 0 s.heap) (hf : ∀ b ∈ fp, FpOk X pins H b)
    (hg : ∀ C s0 H0 fp0, PG (zN X N scope cl C s0 H0 fp0) tg g) (ht : ∀ C s0 H0 fp0, PTs (zN X N scope cl C s0 H0 fp0) ifs tt) (he : ∀ C s0 H0 fp0, PE (zN X N scope cl C s0 H0 fp0) elt te)
    (hw : ∀ D, H D = none → ∃ W : Nat → Nat → St → Hp → Prop, (∃ m, W 0 m (ux n js σ) (upd H D (.lst []))) ∧ ∀ i m σ' H', W i m σ' H' →
      (J.stop i H' ∧ Q (.ref D) H') ∨ (J.go i H' ∧ ∃ Nx : St → Hp → Prop, (∀ σ2 H2, Nx σ2 H2 → ∃ m', m' < m ∧ W (i + 1) m' σ2 H2) ∧
        ∀ x H2, J.yld i H' x H2 → g x σ' H2 fun σ3 H3 => tt σ3 H3 fun ok H4 => if ok = true then te σ3 H4 fun y H5 => ∃ ys, H5 D = some (.lst ys) ∧ ys.length < sizeLine ∧ Nx σ3 (upd H5 D (.lst (ys ++ [y]))) else Nx σ3 H4))
    (fin : ∀ D C σ' H' s', s.heap.objs.size ≤ C → Inv (zN X N scope cl C s H fp) [] σ' H' s' → Q (.ref D) H' → RR (.ref D) C (.ok .next) s') :
    wpAny (model X.prog X.w) X.A (newList []) (fun acc s1 => wpAny (model X.prog X.w) X.A (newFunctionEnv scope X.env.globals cl [] X.env.qual none .none (some X.env)) (fun cenv s2 =>
      codeAny (model X.prog X.w) X.A (.compStart (.ListComp elt [⟨tg, iter, ifs, 0⟩] scope pos) 0 (.ref it) acc { cenv with scope := relabel scope X.env }) (RR acc cenv.locals) s2) E s1) E s := by
  refine wpAny_newObj_type (wpAny_newFunctionEnv L.nocell (by intro y hy; simp at hy) (fun h1 hn1 hs1 => ?_) L.kind)
  dsimp only at hn1 hs1 ⊢
  generalize hG : s.heap.push { cls := .type "list", dict := none, data := .seq ([] : List Value).toArray } = G at hn1 hs1 ⊢
  have eC : G.objs.size = s.heap.objs.size + 1 := by rw [← hG, Heap.size_push]
  have hC : s.heap.objs.size ≤ G.objs.size := by rw [eC]; exact Nat.le_succ _
  have hDC : s.heap.objs.size ≠ G.objs.size := by rw [eC]; exact Nat.ne_of_lt (Nat.lt_succ_self _)
  have hlt : ∀ b ∈ fp, b < s.heap.objs.size := fun b hb => by
    obtain ⟨o, e, _⟩ := T.obj 0 _ t0 b hb
    exact Heap.lt_size e
  have old : ∀ b o, s.heap.get? b = some o → h1.get? b = some o := fun b o e => by
    have hb := Heap.lt_size e
    exact hs1.extBut b o (Nat.ne_of_lt (Nat.lt_of_lt_of_le hb hC)) (Heap.get?_push_of_some _ (hG ▸ Heap.get?_push_of_some _ e))
  have hl : h1.get? s.heap.objs.size = some { cls := .type "list", data := .seq ([] : List Value).toArray 0 } := hs1.extBut _ _ hDC (Heap.get?_push_of_some _ (hG ▸ Heap.get?_push_size _ rfl))
  have I1 : ∀ tk, Inv (zN X N scope cl G.objs.size s H fp) [] (ux n js σ) (upd H s.heap.objs.size (.lst [])) { s with heap := h1, toks := tk } := fun tk => Inv.lc L I hf hlt (Nat.le_refl _) hC hDC hn1 old hl
  have t1 : tn 0 h1 := T.keep _ _ _ t0 fun b _ o e => old b o e
  obtain ⟨W, ⟨m0, w0⟩, step⟩ := hw s.heap.objs.size (I.hok.fresh (Nat.le_refl _))
  have fr1 : ∀ b ∈ fp, upd H s.heap.objs.size (.lst []) b = none := fun b hb => by
    rw [zd (Nat.ne_of_lt (hlt b hb))]
    exact (hf b hb).1
  have fps : ∀ {H' : Hp}, (∀ b ∈ fp, H' b = none) → ∀ b ∈ fp, FpOk (zN X N scope cl G.objs.size s H fp) [] H' b := fun {H'} hn b hb => by
    refine ⟨hn b hb, Nat.ne_of_lt (Nat.lt_of_lt_of_le (hlt b hb) hC), fun hz => ?_, .inl hb, fun x c e => (hf b hb).2.2.2.2.1 x c (L.cells x c e), fun p hp => absurd (show p ∈ ([] : List (Addr × Obj)) from hp) (by simp)⟩
    rcases List.mem_cons.mp (I.stkSub b hz) with z | z
    · exact (hf b hb).2.1 z
    · exact (hf b hb).2.2.1 z
  have loop : ∀ s0 : Shared, s0 = { s with heap := h1, toks := s.toks + ([] : List (Str × Value)).length } →
      codeAny (model X.prog X.w) X.A (.compLoop (.ListComp elt [⟨tg, iter, ifs, 0⟩] scope pos) 0 (.ref it) (.ref s.heap.objs.size) (compEnvC scope cl G.objs.size X.env)) (RR (.ref s.heap.objs.size) G.objs.size) s0 := by
    rintro s0 rfl
    refine K2 (fun k s' => ∃ i σ' H', Inv (zN X N scope cl G.objs.size s H fp) [] σ' H' s' ∧ tn i s'.heap ∧ (∀ b ∈ fp, H' b = none) ∧ W i k σ' H') ?_ m0 ⟨0, _, _, I1 _, t1, fr1, w0⟩
    rintro k s3 ⟨i, σ3, H3, I3, t3, fr3, w3⟩
    rcases step i k σ3 H3 w3 with ⟨stop, qn⟩ | ⟨go, Nx, hN, body⟩
    · refine thn (T.done (zN X N scope cl G.objs.size s H fp) rfl rfl rfl hc i [] s3 σ3 H3 _ I3 (fps fr3) t3 stop) fun r s4 ⟨hr, I4⟩ => ?_
      subst hr
      exact fin _ _ σ3 H3 s4 hC I4 qn
    · refine thn (T.item (zN X N scope cl G.objs.size s H fp) rfl rfl rfl hc i [] s3 σ3 H3 _ I3 (fps fr3) t3 go) fun r s4 ⟨u, hr, h4⟩ => ?_
      subst hr
      refine thn h4 fun _ s5 ⟨x, H5, I5, r5, y5, t5, fr5⟩ => ?_
      have I5' := I5.pinned (fps fr5) (T.obj _ _ t5)
      refine thn (hg _ _ _ _ _ s5 σ3 H5 x u _ I5' r5 (body x H5 y5)) fun _ s6 ⟨σ6, H6, I6, q6⟩ => ?_
      have again : ∀ {σ7 : St} {H7 : Hp} {s7 : Shared}, Inv (zN X N scope cl G.objs.size s H fp) ([] ++ uU fp s5.heap) σ7 H7 s7 → Nx σ7 H7 →
          ∃ j, j < k ∧ ∃ i σ' H', Inv (zN X N scope cl G.objs.size s H fp) [] σ' H' s7 ∧ tn i s7.heap ∧ (∀ b ∈ fp, H' b = none) ∧ W i j σ' H' := fun {σ7 H7 s7} I7 n7 => by
        obtain ⟨m', hm, w7⟩ := hN σ7 H7 n7
        refine ⟨m', hm, i + 1, σ7, H7, I7.unpinned, T.keep _ _ _ t5 fun b hb o e => (I7.pin (b, o) (List.mem_append_right _ (List.mem_append_right _ (vo hb e)))).1, fun b hb => ?_, w7⟩
        obtain ⟨o, e, _⟩ := T.obj _ _ t5 b hb
        exact (I7.pin (b, o) (List.mem_append_right _ (List.mem_append_right _ (vo hb e)))).2.1
      refine thn (ht _ _ _ _ _ s6 σ6 H6 _ I6 q6) fun ok s7 ⟨H7, I7, q7⟩ => ?_
      cases ok with
      | false =>
        rw [if_neg (by decide)] at q7 ⊢
        exact again I7 q7
      | true =>
        rw [if_pos rfl] at q7 ⊢
        refine thn (he _ _ _ _ _ s7 σ6 H7 _ I7 q7) fun v s8 ⟨y, H8, I8, r8, ys, e8, z8, q8⟩ => ?_
        refine thn (yk _ s8 σ6 H8 (.ref s.heap.objs.size) [y] (.ref s.heap.objs.size) [v] (fun _ H9 => Nx σ6 H9) I8 rfl (.cons r8 .nil) ⟨_, ys, y, rfl, rfl, e8, z8, q8⟩) fun _ s9 ⟨_, H9, I9, _, q9⟩ => ?_
        exact again I9 q9
  exact codeAny_compStart_list (loop _ rfl) (T.self X.A 0 _ _ _ t1 (loop _ rfl))
theorem yD {elt tg iter : Expr} {ifs : List Expr} {pos : Pos} {wi : TI} {g : TG} {tt : TT} {te : TE} (L : LcOk X N n js scope cl) (hc : X.calm = true) (hi : PI X tg iter wi)
    (hg : ∀ C s0 H0 fp0, PG (zN X N scope cl C s0 H0 fp0) tg g) (ht : ∀ C s0 H0 fp0, PTs (zN X N scope cl C s0 H0 fp0) ifs tt) (he : ∀ C s0 H0 fp0, PE (zN X N scope cl C s0 H0 fp0) elt te)
    (hs : ∀ x, foldedSetIterable iter X.env x = pure x := by intro _; rfl) : PE X (.ListComp elt [⟨tg, iter, ifs, 0⟩] scope pos) (tLc wi n js g tt te) := by
  intro pins s σ H Q I h
  rw [eval_ListComp]
  refine wpAny_comprehension_free (use := none) rfl hs L.clos L.kind L.names (thn (hi pins s σ H _ I h) fun v s1 h1 => thn h1 fun itv s2 h2 => ?_)
  obtain ⟨it, fp, tn, J, H2, e, I2, T, t2, f2, hw⟩ := h2
  subst e
  refine Xm (RR := fun acc C => compPost (model X.prog X.w) X.A X.xe none (EP X pins σ Q) acc C) L hc I2 T t2 f2 hg ht he hw ?_
  intro D C σ' H' s' hC I' q
  obtain ⟨m, hn, _⟩ := I'.loc
  exact ⟨m, hn, fun h' hs' => ⟨.ref D, H', I2.unlc f2 hC I' hs', rfl, q⟩⟩
theorem ZP {i : Nat} {x : Str} {elt tg iter : Expr} {ifs : List Expr} {pos pos' spos : Pos} {wi : TI} {g : TG} {tt : TT} {te : TE} (hN : X.N.Nodup) (hx : X.N[i]? = some x) (hk : X.env.scope.names.lookup x = some .local)
    (L : LcOk X N n js scope cl) (hc : X.calm = true) (hi : PI X tg iter wi)
    (hg : ∀ C s0 H0 fp0, PG (zN X N scope cl C s0 H0 fp0) tg g) (ht : ∀ C s0 H0 fp0, PTs (zN X N scope cl C s0 H0 fp0) ifs tt) (he : ∀ C s0 H0 fp0, PE (zN X N scope cl C s0 H0 fp0) elt te)
    (hsw : swapsWith (.ListComp elt [⟨tg, iter, ifs, 0⟩] scope pos) (some (.Name x pos')) spos.line X.env = pure true := by rfl)
    (hs : ∀ x, foldedSetIterable iter X.env x = pure x := by intro _; rfl) : PS X (.Assign [.Name x pos'] (.ListComp elt [⟨tg, iter, ifs, 0⟩] scope pos) spos) (qU (tLc wi n js g tt te) (vQ i)) := by
  intro pins s σ H Dn I h
  rw [exec_Assign_Name_used _ _ _ _ hsw]
  refine wpAny_bind (wpAny_standAt (wpAny_bind ?_))
  show wpAny _ X.A (do let _ ← comprehension (.ListComp elt [⟨tg, iter, ifs, 0⟩] scope pos) scope X.env _ (newList []) false (eval iter X.env) (some (assign (.Name x pos') X.env))) _ _ s
  refine wpAny_bind (thn (wpAny_comprehension_free (use := some (assign (.Name x pos') X.env)) (Q := fun _ s' => SP X pins Dn .next s') rfl hs L.clos L.kind L.names (thn (hi pins s σ H _ I h) fun v s1 h1 => thn h1 fun itv s2 h2 => ?_)) fun _ s' hq => wpAny_pure (wpAny_pure hq))
  obtain ⟨it, fp, tn, J, H2, e, I2, T, t2, f2, hw⟩ := h2
  subst e
  refine Xm (Q := fun x H1 => vQ i x σ H1 Dn.nx) (RR := fun acc C => compPost (model X.prog X.w) X.A X.xe (some (assign (.Name x pos') X.env)) (fun _ s' => SP X pins Dn .next s') acc C) L hc I2 T t2 f2 hg ht he hw ?_
  intro D C σ' H' s' hC I' q
  obtain ⟨m, hn, _⟩ := I'.loc
  have I3 : Inv X pins σ H' s' := I2.unlc (h' := s'.heap) f2 hC I' (.refl ..)
  show wpAny _ X.A (assign (.Name x pos') X.env (.ref D)) _ X.xe s'
  refine wpAny_assign_Name (kE (v := .ref D) I3 hN hx (.inl hk) rfl (fun s4 I4 hb => ?_) (.inr hk))
  obtain ⟨a, hsa, ha⟩ := hb
  have bl : ∀ b o, s2.heap.get? b = some o → b ≠ C := fun b o e => Nat.ne_of_lt (Nat.lt_of_lt_of_le (Heap.lt_size e) hC)
  have hL : C ≠ X.env.locals := fun z => absurd (Nat.lt_of_lt_of_le I2.lt (z ▸ hC)) (Nat.lt_irrefl _)
  have hcl : ∀ y c, X.env.cells.lookup y = some c → c ≠ C := fun y c e => by
    obtain ⟨v, o, ho, _⟩ := I2.cell y c e
    exact bl c o ho
  have hCa : C ≠ a := by
    rcases ha with rfl | ha
    · exact hL
    · exact Ne.symm (hcl _ _ ha)
  exact ⟨m, hn.sameBut hsa hCa, fun h' hs' => ⟨_, H', I4.turned (h' := h') (t' := s4.toks) (it := C) (fun b o hb e => (hs'.2 b hb).trans e) I'.free hL (.inr (Nat.le_trans I2.sz hC)) hcl (fun p hp => bl _ _ (I2.pin p hp).1), q⟩⟩
end
end L2
namespace L2
open PySem PySem.Spec PyProof.Rows
structure Cal (P : Program) (w : World) (K : PySem.W.Frag) (mg : Str → Option Value) (base : Heap) (k : Nat) (x : Str) (dvs : List V) (sp : Sp) : Prop where
  ex : ∃ (f : Addr) (fd : FuncData) (ps : List Str) (ds : List Value), FnOk P w K mg base CX0 k f fd ps sp ∧ mg x = some (.ref f) ∧ PySem.W.keepIn K (.ref f) = true ∧ Binds K fd ps ds ∧ Vals dvs ds
section
variable {X : Cx} {k : Nat} {sp : Sp} {dvs : List V} {x : Str} {p pos : Pos} {e : Expr} {es : List Expr} {t : TA}
theorem zr (c : Cal X.prog X.w X.K X.mg X.base k x dvs sp) (hr : Room k X.A) (hg : Gl X x) (ha : PA X (e :: es) t) (hdb : (x == ("__debug__" : Str)) = false := by decide)
    (he : starEach (e :: es) X.env = (false, eval e X.env) :: starEach es X.env := by rfl) (hpl : (backTo pos (starEach es X.env)).any (·.1) = false := by rfl) : PE X (.Call (.Name x p) (e :: es) [] pos) (xv sp dvs E0 t) := by
  obtain ⟨f, fd, ps, ds, F, hm, hk, hb, hd⟩ := c.ex
  exact Xh F hr hg hm hk hb hd zcT ha hdb he hpl
end
section
variable {X : Cx}
theorem YR : zJ X (.builtin "isinstance") (fun xs H Q => ∃ x n t b, xs = [x, .ty n] ∧ TyOf X.K H x t ∧ PySem.W.kitOne X.K t (.type n) = some b ∧ Q (.bl b) H) := by
  intro pins s σ H xs us Q I r h
  obtain ⟨x, n, t, b, rfl, ty, e, q⟩ := h
  obtain ⟨u, c, rfl, ru, rc⟩ := r.two
  cases rc
  exact vc I ru ty e fun tk => ⟨.bl b, H, I.tok tk, rfl, q⟩
noncomputable def zcU (K : PySem.W.Frag) (H : Hp) (x : V) : Prop := ∃ n, TyOf K H x (.type n) ∧ (n = "NoneType" ∨ n = "str" ∨ n = "list" ∨ n = "tuple" ∨ n = "dict")
noncomputable def Th (K : PySem.W.Frag) (H : Hp) (x : V) : Option Int → Prop
  | some i => x = .int i
  | none => (∃ b, x = .bl b) ∨ zcU K H x
end
mutual
noncomputable def Rep (K : PySem.W.Frag) (H : Hp) : PyData → V → Prop
  | .none, x => x = .non
  | .bool b, x => x = .bl b
  | .int i, x => x = .int i
  | .str z, x => x = .str z
  | .list ds, x => ∃ a xs, x = .ref a ∧ SqL K H a xs ∧ Reps K H ds xs
  | .tuple ds, x => ∃ a xs, x = .ref a ∧ SqT K H a xs ∧ Reps K H ds xs
  | .dict kvs, x => kvs = [] ∧ ∃ a, x = .ref a ∧ Rd H a (.dK [])
noncomputable def Reps (K : PySem.W.Frag) (H : Hp) : List PyData → List V → Prop
  | [], xs => xs = []
  | d :: ds, xs => ∃ x r, xs = x :: r ∧ Rep K H d x ∧ Reps K H ds r
end
theorem SqL.same {K : PySem.W.Frag} {H H' : Hp} {a : Addr} {xs : List V} (e : Same H H') (h : SqL K H a xs) : SqL K H' a xs := e.seq h
theorem SqT.same {K : PySem.W.Frag} {H H' : Hp} {a : Addr} {xs : List V} (e : Same H H') (h : SqT K H a xs) : SqT K H' a xs := by
  rcases h with (h | ⟨o, h⟩) | h
  · exact .inl (.inl (e _ _ h))
  · exact .inl (.inr ⟨o, e _ _ h⟩)
  · exact .inr h
mutual
theorem Rep.same {K : PySem.W.Frag} {H H' : Hp} (e : Same H H') : ∀ (d : PyData) (x : V), Rep K H d x → Rep K H' d x
  | .none, _, h => h
  | .bool _, _, h => h
  | .int _, _, h => h
  | .str _, _, h => h
  | .list ds, x, h => by
    obtain ⟨a, xs, e1, h1, h2⟩ := h
    exact ⟨a, xs, e1, h1.same e, Reps.same e ds xs h2⟩
  | .tuple ds, x, h => by
    obtain ⟨a, xs, e1, h1, h2⟩ := h
    exact ⟨a, xs, e1, h1.same e, Reps.same e ds xs h2⟩
  | .dict _, _, h => by
    obtain ⟨e1, a, e2, h1⟩ := h
    refine ⟨e1, a, e2, ?_⟩
    rcases h1 with h1 | ⟨o, h1⟩
    · exact .inl (e _ _ h1)
    · exact .inr ⟨o, e _ _ h1⟩
theorem Reps.same {K : PySem.W.Frag} {H H' : Hp} (e : Same H H') : ∀ (ds : List PyData) (xs : List V), Reps K H ds xs → Reps K H' ds xs
  | [], _, h => h
  | d :: ds, xs, h => by
    obtain ⟨x, r, e1, h1, h2⟩ := h
    exact ⟨x, r, e1, Rep.same e d x h1, Reps.same e ds r h2⟩
end
theorem Reps.length {K : PySem.W.Frag} {H : Hp} : ∀ {ds : List PyData} {xs : List V}, Reps K H ds xs → ds.length = xs.length
  | [], xs, h => by
    cases (show xs = [] from h)
    rfl
  | d :: ds, _, h => by
    obtain ⟨x, r, rfl, _, h2⟩ := h
    rw [List.length_cons, List.length_cons, h2.length]
theorem Reps.get {K : PySem.W.Frag} {H : Hp} : ∀ {ds : List PyData} {xs : List V} (i : Nat) {x : V}, Reps K H ds xs → xs[i]? = some x → ∃ d, ds[i]? = some d ∧ Rep K H d x
  | [], _, i, x, h, e => by
    rw [show _ = _ from h] at e
    cases e
  | d :: ds, _, i, x, h, e => by
    obtain ⟨y, r, rfl, h1, h2⟩ := h
    cases i with
    | zero =>
      cases e
      exact ⟨d, rfl, h1⟩
    | succ i =>
      obtain ⟨d', e', h'⟩ := h2.get i (x := x) (by simpa using e)
      exact ⟨d', by simpa using e', h'⟩
theorem Reps.snoc {K : PySem.W.Frag} {H : Hp} : ∀ {ds : List PyData} {xs : List V} {d : PyData} {x : V}, Reps K H ds xs → Rep K H d x → Reps K H (ds ++ [d]) (xs ++ [x])
  | [], _, d, x, h, h' => by
    rw [show _ = _ from h]
    exact ⟨x, [], rfl, h', rfl⟩
  | d0 :: ds, _, d, x, h, h' => by
    obtain ⟨y, r, rfl, h1, h2⟩ := h
    exact ⟨y, r ++ [x], rfl, h1, h2.snoc h'⟩
mutual
theorem Rep.reads {X : Cx} {pins : List (Addr × Obj)} {σ : St} {H : Hp} {s : Shared} (I : Inv X pins σ H s) : ∀ (d : PyData) (x : V) (u : Value), Rep X.K H d x → RelV x u → ∃ as, Reads s.heap u d as
  | .none, x, u, h, r => by
    cases (show x = V.non from h)
    cases r
    exact ⟨_, .none⟩
  | .bool b, x, u, h, r => by
    cases (show x = V.bl b from h)
    cases r
    exact ⟨_, .bool b⟩
  | .int i, x, u, h, r => by
    cases (show x = V.int i from h)
    obtain ⟨t, rfl⟩ := r
    exact ⟨_, .int i t⟩
  | .str z, x, u, h, r => by
    cases (show x = V.str z from h)
    obtain ⟨t, rfl⟩ := r
    exact ⟨_, .str z t⟩
  | .list ds, x, u, h, r => by
    obtain ⟨a, xs, rfl, h1, h2⟩ := h
    cases r
    obtain ⟨its, rv, ⟨o, n, e, c, _, dt⟩, _⟩ := I.list h1
    obtain ⟨as, q⟩ := Reps.reads I ds xs its h2 rv
    exact ⟨_, .list e c dt (by simpa using q)⟩
  | .tuple ds, x, u, h, r => by
    obtain ⟨a, xs, rfl, h1, h2⟩ := h
    cases r
    obtain ⟨its, rv, ⟨o, e, c, n, dt⟩, _⟩ := I.tuple h1
    obtain ⟨as, q⟩ := Reps.reads I ds xs its h2 rv
    exact ⟨_, .tuple e c dt (by simpa using q)⟩
  | .dict kvs, x, u, h, r => by
    obtain ⟨rfl, a, rfl, h1⟩ := h
    cases r
    obtain ⟨_, _, vs, kv, dd⟩ := (show zR X.prog X.w H s.heap a (.dK []) from h1.ok I.hok)
    cases kv
    obtain ⟨o, es, ep, h2, h3, h4, _, h5, _⟩ := dd
    have e0 : es = #[] := by
      have := h5.length
      exact Array.eq_empty_of_size_eq_zero (by simpa using this)
    subst e0
    exact ⟨_, .dict h2 h3.1 h4 .nil .nil⟩
theorem Reps.reads {X : Cx} {pins : List (Addr × Obj)} {σ : St} {H : Hp} {s : Shared} (I : Inv X pins σ H s) : ∀ (ds : List PyData) (xs : List V) (us : List Value), Reps X.K H ds xs → Vals xs us → ∃ as, ReadsAll s.heap us ds as
  | [], xs, us, h, r => by
    cases (show xs = [] from h)
    cases r
    exact ⟨_, .nil⟩
  | d :: ds, xs, us, h, r => by
    obtain ⟨x, yh, rfl, h1, h2⟩ := h
    cases r with
    | cons r1 r2 =>
      obtain ⟨as, q⟩ := Rep.reads I d x _ h1 r1
      obtain ⟨bs, q2⟩ := Reps.reads I ds yh _ h2 r2
      exact ⟨_, .cons q q2⟩
end
section
variable {X : Cx}
noncomputable def QP (K : PySem.W.Frag) : R2 := fun x y H Q => ∃ d e, Rep K H d x ∧ Rep K H e y ∧ SeqAt.shaped d = true ∧ SeqAt.shaped e = true ∧ Q (.bl (PyData.eqv d e)) H
noncomputable def QQ (K : PySem.W.Frag) : R2 := fun x y H Q => ∃ d e, Rep K H d x ∧ Rep K H e y ∧ SeqAt.shaped d = true ∧ SeqAt.shaped e = true ∧ Q (.bl (!PyData.eqv d e)) H
theorem zbB (hu : X.A.units + 64 < cLine) : OpR X (compareOp .Eq) (QP X.K) := by
  intro pins s σ H x y v u Q I rx ry h
  obtain ⟨d, e, h1, h2, s1, s2, q⟩ := h
  obtain ⟨as, r1⟩ := Rep.reads I d x v h1 rx
  obtain ⟨bs, r2⟩ := Rep.reads I e y u h2 ry
  exact eq_dataH r1 r2 s1 s2 hu ⟨.bl _, H, I, rfl, q⟩
theorem zbC (hu : X.A.units + 64 < cLine) : OpR X (compareOp .NotEq) (QQ X.K) := by
  intro pins s σ H x y v u Q I rx ry h
  obtain ⟨d, e, h1, h2, s1, s2, q⟩ := h
  obtain ⟨as, r1⟩ := Rep.reads I d x v h1 rx
  obtain ⟨bs, r2⟩ := Rep.reads I e y u h2 ry
  exact ne_dataH r1 r2 s1 s2 hu ⟨.bl _, H, I, rfl, q⟩
end
end L2
namespace L2
open PySem PySem.Spec PyProof.Rows
noncomputable def Ut : Expr → Bool
  | .Starred .. => false
  | _ => true
theorem Zb {e : Expr} {es : List Expr} {env : Env} (h : Ut e = true) : starEach (e :: es) env = (false, eval e env) :: starEach es env := by
  cases e <;> first | rfl | cases h
structure QA (X : Cx) (es : List Expr) (t : TA) : Prop where
  pa : PA X es t
theorem qn {X : Cx} : QA X [] uW := ⟨zbo⟩
theorem qc {X : Cx} {e : Expr} {es : List Expr} {te : TE} {t : TA} (ha : PE X e te) (hr : QA X es t) (h : Ut e = true := by rfl) : QA X (e :: es) (xu te t) := ⟨KW ha hr.pa (Zb h)⟩
theorem zL {X : Cx} {es : List Expr} {t : TA} {pos : Pos} (h : QA X es t) : PE X (.List es pos) (ZH t) := Ui h.pa
theorem zM {X : Cx} {es : List Expr} {t : TA} {pos : Pos} {k : Nat} (h : QA X es t) : PE X (.Tuple es k pos) (X5 t) := zbp h.pa
noncomputable def Sm (a : Int) : Prop := -1000000000000 ≤ a ∧ a ≤ 1000000000000
theorem Sm.mulL {a b : Int} (h : Sm a) : j4 a b := .inl ⟨Int.lt_of_lt_of_le (by decide) h.1, Int.lt_of_le_of_lt h.2 (by decide)⟩
theorem Sm.mulR {a b : Int} (h : Sm b) : j4 a b := .inr ⟨Int.lt_of_lt_of_le (by decide) h.1, Int.lt_of_le_of_lt h.2 (by decide)⟩
theorem K3 {a b : Int} (h1 : -1000000000000 ≤ a) (h2 : a ≤ 1000000000000) : j4 a b := Sm.mulL ⟨h1, h2⟩
theorem QR {a b : Int} (h1 : -1000000000000 ≤ b) (h2 : b ≤ 1000000000000) : j4 a b := Sm.mulR ⟨h1, h2⟩
theorem yx {H : Hp} {p : Addr} {o : HO} (hp : H p = none) : Same H (upd H p o) := fun b u e => by
  rw [zd (zQ e hp)]
  exact e
theorem vz {H H' : Hp} {r : Addr} {o : HO} (hs : Same H H') (hr : H r = none) : Same H (upd H' r o) := fun b u e => by
  rw [zd (zQ e hr)]
  exact hs b u e
noncomputable def ju (n : Nat) (g : TG) (tb : TS) (D : Ends) (σ : St) (H : Hp) : Prop := ∃ W : Nat → Nat → St → Hp → Prop, (∃ m, W 0 m σ H) ∧ ∀ i m σ H, W i m σ H →
  ((Itr 0 n).stop i H ∧ D.nx σ H) ∨ ((Itr 0 n).go i H ∧ ∃ N : St → Hp → Prop, (∀ σ' H', N σ' H' → ∃ m', m' < m ∧ W (i + 1) m' σ' H') ∧ ∀ x H', (Itr 0 n).yld i H x H' → g x σ H' fun σ2 H2 => tb { D with nx := N, ct := N, bk := D.nx } σ2 H2)
theorem ju.by {n : Nat} {g : TG} {tb : TS} {D : Ends} {σ : St} {H : Hp} (Pv : Nat → St → Hp → Prop) (h0 : Pv 0 σ H)
    (hs : ∀ i σ H, i < n → Pv i σ H → g (.int i) σ H fun σ2 H2 => tb { D with nx := Pv (i + 1), ct := Pv (i + 1), bk := D.nx } σ2 H2) (hd : ∀ σ H, Pv n σ H → D.nx σ H) : ju n g tb D σ H :=
  Ua (lo := 0) (n := n) Pv h0 (fun i σ H hi p => by rw [Int.zero_add]; exact hs i σ H hi p) hd
theorem ju.run {n : Nat} {g : TG} {tb : TS} {D : Ends} {σ : St} {H : Hp} (Pv : Nat → St → Hp → Prop) (h0 : Pv 0 σ H)
    (hs : ∀ i σ H, i < n → Pv i σ H → ∀ R : St → Hp → Prop, (∀ σ' H', Pv (i + 1) σ' H' → R σ' H') → g (.int i) σ H fun σ2 H2 => tb { D with nx := R, ct := R, bk := D.nx } σ2 H2) (hd : ∀ σ H, Pv n σ H → D.nx σ H) : ju n g tb D σ H :=
  ju.by Pv h0 (fun i σ H hi p => hs i σ H hi p _ fun _ _ z => z) hd
noncomputable def jv (K : PySem.W.Frag) (a : Addr) (g : TG) (tb : TS) (D : Ends) (σ : St) (H : Hp) : Prop := ∃ W : Nat → Nat → St → Hp → Prop, (∃ m, W 0 m σ H) ∧ ∀ i m σ H, W i m σ H →
  ((Itl K a).stop i H ∧ D.nx σ H) ∨ ((Itl K a).go i H ∧ ∃ N : St → Hp → Prop, (∀ σ' H', N σ' H' → ∃ m', m' < m ∧ W (i + 1) m' σ' H') ∧ ∀ x H', (Itl K a).yld i H x H' → g x σ H' fun σ2 H2 => tb { D with nx := N, ct := N, bk := D.nx } σ2 H2)
theorem jv.by {K : PySem.W.Frag} {a : Addr} {xs : List V} {g : TG} {tb : TS} {D : Ends} {σ : St} {H : Hp} (Pv : Nat → St → Hp → Prop) (h0 : Pv 0 σ H) (hl : ∀ i σ H, i ≤ xs.length → Pv i σ H → SqL K H a xs)
    (hs : ∀ i x σ H, xs[i]? = some x → Pv i σ H → g x σ H fun σ2 H2 => tb { D with nx := Pv (i + 1), ct := Pv (i + 1), bk := D.nx } σ2 H2) (hd : ∀ σ H, Pv xs.length σ H → D.nx σ H) : jv K a g tb D σ H :=
  QE Pv h0 hl hs hd
theorem jv.run {K : PySem.W.Frag} {a : Addr} {xs : List V} {g : TG} {tb : TS} {D : Ends} {σ : St} {H : Hp} (Pv : Nat → St → Hp → Prop) (h0 : Pv 0 σ H) (hl : ∀ i σ H, i ≤ xs.length → Pv i σ H → SqL K H a xs)
    (hs : ∀ i x σ H, xs[i]? = some x → Pv i σ H → ∀ R : St → Hp → Prop, (∀ σ' H', Pv (i + 1) σ' H' → R σ' H') → g x σ H fun σ2 H2 => tb { D with nx := R, ct := R, bk := D.nx } σ2 H2) (hd : ∀ σ H, Pv xs.length σ H → D.nx σ H) : jv K a g tb D σ H :=
  jv.by Pv h0 hl (fun i x σ H hi p => hs i x σ H hi p _ fun _ _ z => z) hd
theorem Xn {t u : TS} {D : Ends} {σ : St} {H : Hp} (J : St → Hp → Prop) (ht : ∀ R : St → Hp → Prop, (∀ σ' H', J σ' H' → R σ' H') → t { D with nx := R } σ H) (hu : ∀ σ' H', J σ' H' → u D σ' H') : jZ t u D σ H := ht (u D) hu
structure FunD (K : PySem.W.Frag) (x qual : Str) (st : Stmt) (ds : List Value) (f : Addr) (fd : FuncData) : Prop where
  ex : ∃ (oc : Value) (od : Option Addr) (kV doc pm : Value) (an : Option Addr) (cdv ct : Value) (osl : Array (Option Value)) (T : Addr) (oT : Obj) (n : Nat),
    fd = PySem.W.fnOf x qual (defArgs st) (defBody st) (defScope st) (.ref T) kV doc pm an cdv ct ∧ K.lookup f = some ⟨oc, od, .func fd, osl⟩ ∧ PySem.W.codeIn K cdv qual = true ∧ K.lookup T = some oT ∧ oT.data = .seq ds.toArray n
  kp : PySem.W.keepIn K (.ref f) = true
section
variable {P : Program} {w : World} {K : PySem.W.Frag} {mg : Str → Option Value} {base : Heap}
theorem FunD.ok {x qual : Str} {st : Stmt} {ds : List Value} {f : Addr} {fd : FuncData} {N ps : List Str} {k : Nat} {sp : Sp} (F : FunD K x qual st ds f fd) (S : FnScope N ps (defScope st)) (len : ∀ vs H Q E, sp vs H Q E → vs.length = ps.length)
    (hbody : ∀ (cdv : Value) (A : Around) (outer : List Env) (s : Shared) (H : Hp) (vs : List V) (Q : VK) (E : XK), Room k (A.deeper (envOfC qual (defScope st) s.heap.objs.size f cdv)) → sp vs H Q E →
      ∃ t, PSs (y6 CX0 P w K mg base N qual (defScope st) f cdv A outer s H E).nox (defBody st) t ∧ t { nx := fun _ H' => Q .non H', rt := Q } (L2.start N vs) H) : FnOk P w K mg base CX0 (k + 1) f fd ps sp := by
  obtain ⟨oc, od, kV, doc, pm, an, cdv, ct, osl, T, oT, n, rfl, lk, hcd, _, _⟩ := F.ex
  refine Zk lk hcd S len fun A outer s H vs Q E hr hsp => ?_
  obtain ⟨t, h, q⟩ := hbody cdv A outer s H vs Q E hr hsp
  exact ⟨t, h.nox, q⟩
theorem FunD.binds {x qual : Str} {st : Stmt} {ds es : List Value} {f : Addr} {fd : FuncData} {ps : List Str} (F : FunD K x qual st ds f fd)
    (h : ∀ (T : Addr) (kV doc pm : Value) (an : Option Addr) (cdv ct : Value) (us : List Value), (us ++ es).length = ps.length →
      ∃ k, bindArgs (PySem.W.fnOf x qual (defArgs st) (defBody st) (defScope st) (.ref T) kV doc pm an cdv ct) ⟨us, []⟩ = seqItems? (PySem.W.fnOf x qual (defArgs st) (defBody st) (defScope st) (.ref T) kV doc pm an cdv ct).defaults >>= k ∧ k (some ds.toArray) = pure (ps.zip (us ++ es))) : Binds K fd ps es := by
  obtain ⟨oc, od, kV, doc, pm, an, cdv, ct, osl, T, oT, n, rfl, lk, hcd, hT, hd⟩ := F.ex
  intro s us hK hl
  obtain ⟨k, h1, h2⟩ := h T kV doc pm an cdv ct us hl
  exact .of_defaults rfl (hK _ _ hT) hd h1 h2
end
end L2
namespace L2
open PySem PySem.Spec PyProof.Rows
theorem v0 {α : Type} {x : Str} {c : α} : ∀ {l : List (Str × α)}, l.lookup x = some c → (x, c) ∈ l
  | [], h => by cases h
  | (y, d) :: l, h => by
    rw [List.lookup_cons] at h
    cases e : x == y with
    | true =>
      rw [e] at h
      have h1 : x = y := by simpa using e
      have h2 : d = c := Option.some.inj h
      rw [h1, h2]
      exact List.mem_cons_self
    | false =>
      rw [e] at h
      exact List.mem_cons_of_mem _ (v0 h)
noncomputable def j8 (k : Option NameKind) : Bool := match k with
  | some .cell => true
  | some .free => true
  | _ => false
theorem Xo {k : Option NameKind} (h : j8 k = true) : k = some .cell ∨ k = some .free := by
  unfold j8 at h
  split at h
  · exact .inl rfl
  · exact .inr rfl
  · cases h
inductive CellsIn (big : List (Str × Addr)) : List (Str × Addr) → Prop
  | nil : CellsIn big []
  | cons {x : Str} {c : Addr} {l : List (Str × Addr)} : big.lookup x = some c → CellsIn big l → CellsIn big ((x, c) :: l)
theorem CellsIn.mem {big : List (Str × Addr)} {x : Str} {c : Addr} : ∀ {l : List (Str × Addr)}, CellsIn big l → (x, c) ∈ l → big.lookup x = some c
  | _, .nil, h => by cases h
  | _, .cons e r, h => by
    rcases List.mem_cons.mp h with z | z
    · cases z
      exact e
    · exact r.mem z
theorem yO {X : Cx} {N : List Str} {n : Nat} {js : List Nat} {scope : Scope} {cl : List (Str × Addr)} (clos : closureFor scope X.env = pure cl := by rfl) (nocell : (scope.names.all fun y => !(y.2 == .cell)) = true := by rfl) (kind : scope.kind = .function := by rfl)
    (names : (scope.names.all fun y => !(y.2 == .local) || scope.names.lookup y.1 == some .local) = true := by rfl) (cells : CellsIn X.env.cells cl := by repeat' first | exact CellsIn.nil | refine CellsIn.cons rfl ?_)
    (has : ((relabel scope X.env).names.all fun y => !(j8 (some y.2)) || (cl.lookup y.1).isSome) = true := by rfl) (len : n + js.length = N.length := by rfl)
    (free : ((N.drop n).zip js).all (fun p => X.N[p.2]? == some p.1 && j8 (X.env.scope.names.lookup p.1) && j8 ((relabel scope X.env).names.lookup p.1) && (cl.lookup p.1).isSome) = true := by rfl) : LcOk X N n js scope cl where
  clos := clos
  nocell := fun y hy e => by
    have h := List.all_eq_true.mp nocell y hy
    rw [e] at h
    cases h
  kind := kind
  names := fun y hy e => by
    have h := List.all_eq_true.mp names y hy
    rw [e] at h
    simpa using h
  cells := fun x c h => cells.mem (v0 h)
  has := fun x h => by
    have key : ∀ k, (relabel scope X.env).names.lookup x = some k → j8 (some k) = true → ∃ c, cl.lookup x = some c := fun k e hk => by
      have h1 := List.all_eq_true.mp has (x, k) (v0 e)
      rw [hk] at h1
      exact Option.isSome_iff_exists.mp (by simpa using h1)
    rcases h with h | h
    · exact key _ h rfl
    · exact key _ h rfl
  len := len
  free := fun i x h => by
    have hd : (N.drop n)[i]? = some x := by rw [List.getElem?_drop]; exact h
    have hi : i < (N.drop n).length := (List.getElem?_eq_some_iff.mp hd).1
    have hj : i < js.length := by rw [List.length_drop] at hi; omega
    have hz : ((N.drop n).zip js)[i]? = some (x, js[i]) := by
      rw [List.getElem?_zip_eq_some]
      exact ⟨hd, List.getElem?_eq_getElem hj⟩
    have h1 := List.all_eq_true.mp free (x, js[i]) (List.mem_of_getElem? hz)
    simp only [Bool.and_eq_true, beq_iff_eq] at h1
    obtain ⟨⟨⟨a1, a2⟩, a3⟩, a4⟩ := h1
    obtain ⟨c, hc⟩ := Option.isSome_iff_exists.mp a4
    exact ⟨js[i], c, List.getElem?_eq_getElem hj, a1, Xo a2, Xo a3, hc⟩
noncomputable def LcL (K : PySem.W.Frag) (a : Addr) (g : TG) (tt : TT) (te : TE) (σ0 : St) (H1 : Hp) (Q : VK) : Prop := ∀ D, H1 D = none → ∃ W : Nat → Nat → St → Hp → Prop, (∃ m, W 0 m σ0 (upd H1 D (.lst []))) ∧ ∀ i m σ' H', W i m σ' H' →
  ((Itl K a).stop i H' ∧ Q (.ref D) H') ∨ ((Itl K a).go i H' ∧ ∃ Nx : St → Hp → Prop, (∀ σ2 H2, Nx σ2 H2 → ∃ m', m' < m ∧ W (i + 1) m' σ2 H2) ∧
    ∀ x H2, (Itl K a).yld i H' x H2 → g x σ' H2 fun σ3 H3 => tt σ3 H3 fun ok H4 => if ok = true then te σ3 H4 fun y H5 => ∃ ys, H5 D = some (.lst ys) ∧ ys.length < sizeLine ∧ Nx σ3 (upd H5 D (.lst (ys ++ [y]))) else Nx σ3 H4)
theorem LcL.by {K : PySem.W.Frag} {a : Addr} {xs : List V} {g : TG} {tt : TT} {te : TE} {σ0 : St} {H1 : Hp} {Q : VK} (Pv : Addr → Nat → St → Hp → Prop) (h0 : ∀ D, H1 D = none → Pv D 0 σ0 (upd H1 D (.lst [])))
    (hl : ∀ D i σ H, H1 D = none → i ≤ xs.length → Pv D i σ H → SqL K H a xs)
    (hs : ∀ D i x σ H, H1 D = none → xs[i]? = some x → Pv D i σ H → g x σ H fun σ3 H3 => tt σ3 H3 fun ok H4 => if ok = true then te σ3 H4 fun y H5 => ∃ ys, H5 D = some (.lst ys) ∧ ys.length < sizeLine ∧ Pv D (i + 1) σ3 (upd H5 D (.lst (ys ++ [y]))) else Pv D (i + 1) σ3 H4)
    (hd : ∀ D σ H, H1 D = none → Pv D xs.length σ H → Q (.ref D) H) : LcL K a g tt te σ0 H1 Q := by
  intro D hD
  refine ⟨fun i m σ H => m = xs.length - i ∧ i ≤ xs.length ∧ Pv D i σ H, ⟨xs.length, by simp, Nat.zero_le _, h0 D hD⟩, ?_⟩
  rintro i m σ H ⟨rfl, hi, p⟩
  have q := hl D i σ H hD hi p
  by_cases hlt : i < xs.length
  · refine .inr ⟨⟨xs, xs[i], q, by simp [hlt]⟩, Pv D (i + 1), fun σ' H' p' => ⟨xs.length - (i + 1), by omega, rfl, hlt, p'⟩, fun x H' y => ?_⟩
    obtain ⟨e, y⟩ := y
    subst e
    exact hs D i x σ _ hD (y xs q) p
  · have e : i = xs.length := by omega
    subst e
    exact .inl ⟨⟨xs, q, Nat.le_refl _⟩, hd D σ H hD p⟩
noncomputable def LcR (n0 : Nat) (g : TG) (tt : TT) (te : TE) (σ0 : St) (H1 : Hp) (Q : VK) : Prop := ∀ D, H1 D = none → ∃ W : Nat → Nat → St → Hp → Prop, (∃ m, W 0 m σ0 (upd H1 D (.lst []))) ∧ ∀ i m σ' H', W i m σ' H' →
  ((Itr 0 n0).stop i H' ∧ Q (.ref D) H') ∨ ((Itr 0 n0).go i H' ∧ ∃ Nx : St → Hp → Prop, (∀ σ2 H2, Nx σ2 H2 → ∃ m', m' < m ∧ W (i + 1) m' σ2 H2) ∧
    ∀ x H2, (Itr 0 n0).yld i H' x H2 → g x σ' H2 fun σ3 H3 => tt σ3 H3 fun ok H4 => if ok = true then te σ3 H4 fun y H5 => ∃ ys, H5 D = some (.lst ys) ∧ ys.length < sizeLine ∧ Nx σ3 (upd H5 D (.lst (ys ++ [y]))) else Nx σ3 H4)
theorem LcR.by {n0 : Nat} {g : TG} {tt : TT} {te : TE} {σ0 : St} {H1 : Hp} {Q : VK} (Pv : Addr → Nat → St → Hp → Prop) (h0 : ∀ D, H1 D = none → Pv D 0 σ0 (upd H1 D (.lst [])))
    (hs : ∀ D i σ H, H1 D = none → i < n0 → Pv D i σ H → g (.int i) σ H fun σ3 H3 => tt σ3 H3 fun ok H4 => if ok = true then te σ3 H4 fun y H5 => ∃ ys, H5 D = some (.lst ys) ∧ ys.length < sizeLine ∧ Pv D (i + 1) σ3 (upd H5 D (.lst (ys ++ [y]))) else Pv D (i + 1) σ3 H4)
    (hd : ∀ D σ H, H1 D = none → Pv D n0 σ H → Q (.ref D) H) : LcR n0 g tt te σ0 H1 Q := by
  intro D hD
  refine ⟨fun i m σ H => m = n0 - i ∧ i ≤ n0 ∧ Pv D i σ H, ⟨n0, by simp, Nat.zero_le _, h0 D hD⟩, ?_⟩
  rintro i m σ H ⟨rfl, hi, p⟩
  by_cases hlt : i < n0
  · refine .inr ⟨hlt, Pv D (i + 1), fun σ' H' p' => ⟨n0 - (i + 1), by omega, rfl, hlt, p'⟩, fun x H' y => ?_⟩
    obtain ⟨e, y⟩ := y
    subst e y
    rw [Int.zero_add]
    exact hs D i σ _ hD hlt p
  · have e : i = n0 := by omega
    subst e
    exact .inl ⟨Nat.le_refl _, hd D σ H hD p⟩
end L2
namespace L2
open PySem PySem.Spec PyProof.Rows
noncomputable abbrev Cel := Str × Int
noncomputable abbrev Pict := List (List Cel)
noncomputable def zF (c : Cel) : PyData := .tuple [.str c.1, .int c.2]
noncomputable def zdo (r : List Cel) : PyData := .list (r.map zF)
noncomputable def zdp (p : Pict) : PyData := .list (p.map zdo)
noncomputable def okC (c : Cel) : Prop := PyData.strOk c.1 = true
structure IsPic (p : Pict) (w h : Nat) : Prop where
  hh : p.length = h
  ww : ∀ r ∈ p, r.length = w
  ok : ∀ r ∈ p, ∀ c ∈ r, okC c
  w1 : 1 ≤ w
  w2 : w ≤ 24
  h1 : 1 ≤ h
  h2 : h ≤ 12
theorem Reps.at {K : PySem.W.Frag} {H : Hp} : ∀ {ds : List PyData} {xs : List V} (i : Nat) {d : PyData}, Reps K H ds xs → ds[i]? = some d → ∃ x, xs[i]? = some x ∧ Rep K H d x
  | [], _, i, d, _, e => by cases e
  | d0 :: ds, _, i, d, h, e => by
    obtain ⟨y, r, rfl, h1, h2⟩ := h
    cases i with
    | zero =>
      cases e
      exact ⟨y, rfl, h1⟩
    | succ i =>
      obtain ⟨x, e', h'⟩ := h2.at i (d := d) (by simpa using e)
      exact ⟨x, by simpa using e', h'⟩
section
variable {K : PySem.W.Frag} {H : Hp}
end
noncomputable def vA (H : Hp) : List (Int × Int) → List V → Prop
  | [], xs => xs = []
  | p :: l, xs => ∃ t r, xs = .ref t :: r ∧ H t = some (.tup [.int p.1, .int p.2]) ∧ vA H l r
theorem vA.same {H H' : Hp} (e : ∀ b xs, H b = some (.tup xs) → H' b = some (.tup xs)) : ∀ {l : List (Int × Int)} {xs : List V}, vA H l xs → vA H' l xs
  | [], _, h => h
  | p :: l, _, h => by
    obtain ⟨t, r, e1, h1, h2⟩ := h
    exact ⟨t, r, e1, e _ _ h1, h2.same e⟩
theorem vA.length {H : Hp} : ∀ {l : List (Int × Int)} {xs : List V}, vA H l xs → xs.length = l.length
  | [], _, h => by rw [show _ = [] from h]; rfl
  | p :: l, _, h => by
    obtain ⟨t, r, rfl, _, h2⟩ := h
    rw [List.length_cons, List.length_cons, h2.length]
theorem vA.snoc {H : Hp} {p : Int × Int} {t : Addr} (ht : H t = some (.tup [.int p.1, .int p.2])) : ∀ {l : List (Int × Int)} {xs : List V}, vA H l xs → vA H (l ++ [p]) (xs ++ [.ref t])
  | [], _, h => by
    rw [show _ = [] from h]
    exact ⟨t, [], rfl, ht, rfl⟩
  | q :: l, _, h => by
    obtain ⟨u, r, rfl, h1, h2⟩ := h
    exact ⟨u, r ++ [.ref t], rfl, h1, h2.snoc ht⟩
theorem vA.at {H : Hp} : ∀ {l : List (Int × Int)} {xs : List V} (i : Nat) {x : V}, vA H l xs → xs[i]? = some x → ∃ (t : Addr) (p : Int × Int), x = .ref t ∧ H t = some (.tup [.int p.1, .int p.2])
  | [], _, i, x, h, e => by
    rw [show _ = [] from h] at e
    cases e
  | p :: l, _, i, x, h, e => by
    obtain ⟨t, r, rfl, h1, h2⟩ := h
    cases i with
    | zero =>
      cases e
      exact ⟨t, p, rfl, h1⟩
    | succ i => exact h2.at i (by simpa using e)
noncomputable def uY (p : Pict) (i j : Nat) : Cel := (p.getD i []).getD j (Str.ofString "", 0)
theorem QS {p : Pict} {w h : Nat} (ip : IsPic p w h) {i j : Nat} (hi : i < h) (hj : j < w) : ∃ r, p[i]? = some r ∧ r.length = w ∧ r[j]? = some (uY p i j) ∧ okC (uY p i j) := by
  have hl : i < p.length := by rw [ip.hh]; exact hi
  have hm : p[i] ∈ p := List.getElem_mem hl
  have hw := ip.ww _ hm
  have hj' : j < p[i].length := by rw [hw]; exact hj
  have e : uY p i j = p[i][j] := by
    unfold uY
    have e1 : p.getD i [] = p[i] := by rw [List.getD_eq_getElem?_getD, List.getElem?_eq_getElem hl, Option.getD_some]
    rw [e1, List.getD_eq_getElem?_getD, List.getElem?_eq_getElem hj', Option.getD_some]
  refine ⟨p[i], List.getElem?_eq_getElem hl, hw, ?_, ?_⟩
  · rw [e, List.getElem?_eq_getElem hj']
  · rw [e]
    exact ip.ok _ hm _ (List.getElem_mem hj')
end L2
namespace L2
open PySem PySem.Spec PyProof.Rows
noncomputable def Bld (K : PySem.W.Frag) (H0 H : Hp) (av : List Addr) (r : Addr) (ds : List PyData) : Prop := ∃ G vs, Same H0 G ∧ Same G H ∧ (∀ b ∈ r :: av, G b = none) ∧ H r = some (.lst vs) ∧ Reps K G ds vs
section
variable {K : PySem.W.Frag} {H0 H H1 : Hp} {av : List Addr} {r t l : Addr} {ds es : List PyData} {d : PyData}
theorem Bld.new (hs : Same H0 H) (ha : ∀ b ∈ av, H0 b = none) (hr : H r = none) : Bld K H0 (upd H r (.lst [])) av r [] := by
  refine ⟨H0, [], fun _ _ e => e, vz hs (hs.free hr), fun b hb => ?_, zg, rfl⟩
  rcases List.mem_cons.mp hb with z | z
  · rw [z]
    exact hs.free hr
  · exact ha b z
theorem Bld.same (b : Bld K H0 H av r ds) (hs : Same H H1) : Bld K H0 H1 av r ds := by
  obtain ⟨G, vs, h1, h2, h3, h4, h5⟩ := b
  exact ⟨G, vs, h1, h2.trans hs, h3, hs _ _ h4, h5⟩
theorem Bld.base (b : Bld K H0 H av r ds) : Same H0 H := by
  obtain ⟨G, vs, h1, h2, _⟩ := b
  exact h1.trans h2
theorem Bld.lst (b : Bld K H0 H av r ds) : ∃ vs, H r = some (.lst vs) ∧ vs.length = ds.length := by
  obtain ⟨G, vs, h1, h2, h3, h4, h5⟩ := b
  exact ⟨vs, h4, h5.length.symm⟩
theorem Bld.tup {cs vs : List V} (b : Bld K H0 H av r ds) (hv : H r = some (.lst vs)) (ha : ∀ c ∈ av, ∃ o, H c = some o) (ht : H t = none) (hc : ∀ G, Reps K G es cs) :
    Bld K H0 (upd (upd H t (.tup cs)) r (.lst (vs ++ [.ref t]))) av r (ds ++ [.tuple es]) := by
  obtain ⟨G, ws, h1, h2, h3, h4, h5⟩ := b
  rw [hv] at h4
  cases h4
  have nr : t ≠ r := fun z => by rw [z, hv] at ht; cases ht
  have gt : G t = none := h2.free ht
  refine ⟨upd G t (.tup cs), _, h1.trans (yx gt), fun c o q => ?_, fun c hc' => ?_, zg, ?_⟩
  · by_cases z : c = t
    · rw [z] at q ⊢
      rw [zg] at q
      rw [zd nr, zg]
      exact q
    · rw [zd z] at q
      have nc : c ≠ r := fun y => by rw [y, h3 r List.mem_cons_self] at q; cases q
      rw [zd nc, zd z]
      exact h2 _ _ q
  · have nc : c ≠ t := fun y => by
      rcases List.mem_cons.mp hc' with z | z
      · exact nr (y.symm.trans z)
      · obtain ⟨o, q⟩ := ha c z
        rw [y, ht] at q
        cases q
    rw [zd nc]
    exact h3 c hc'
  · exact (Reps.same (yx gt) _ _ h5).snoc ⟨t, cs, rfl, SqT.of zg, hc _⟩
theorem Bld.row {vs : List V} {G : Hp} (h1 : Same H0 G) (h3 : ∀ b ∈ r :: av, G b = none) (h5 : Reps K G ds vs) (b : Bld K G H (r :: av) l es) (hv : H r = some (.lst vs)) (nl : ∀ c ∈ r :: av, c ≠ l) :
    Bld K H0 (upd H r (.lst (vs ++ [.ref l]))) av r (ds ++ [.list es]) := by
  obtain ⟨G2, us, k1, k2, k3, k4, k5⟩ := b
  have gl : G2 l = none := k3 l List.mem_cons_self
  have nr : l ≠ r := (nl r List.mem_cons_self).symm
  have sn : Same G2 (upd G2 l (.lst us)) := yx gl
  refine ⟨upd G2 l (.lst us), _, (h1.trans k1).trans sn, fun c o q => ?_, fun c hc => ?_, zg, ?_⟩
  · by_cases z : c = l
    · rw [z] at q ⊢
      rw [zg] at q
      rw [zd nr, k4]
      exact q
    · rw [zd z] at q
      have nc : c ≠ r := fun y => by rw [y, k3 r (List.mem_cons_of_mem _ List.mem_cons_self)] at q; cases q
      rw [zd nc]
      exact k2 _ _ q
  · rw [zd (nl c hc)]
    exact k3 c (List.mem_cons_of_mem _ hc)
  · exact (Reps.same (k1.trans sn) _ _ h5).snoc ⟨l, us, rfl, SqL.of zg, Reps.same sn _ _ k5⟩
theorem Bld.done (b : Bld K H0 H av r ds) : Rep K H (.list ds) (.ref r) := by
  obtain ⟨G, vs, h1, h2, h3, h4, h5⟩ := b
  exact ⟨r, vs, rfl, SqL.of h4, Reps.same h2 _ _ h5⟩
end
end L2
namespace L2
open PySem PySem.Spec PyProof.Rows
noncomputable def yJ (K : PySem.W.Frag) (H0 H : Hp) (r : Addr) (p : Pict) : Prop := ∃ (G : Hp) (as : List Addr), Same H0 G ∧ Same G H ∧ (∀ a ∈ r :: as, G a = none) ∧ (r :: as).Nodup ∧ H r = some (.lst (as.map V.ref)) ∧ as.length = p.length ∧
  ∀ (i : Nat) row, p[i]? = some row → ∃ a us, as[i]? = some a ∧ H a = some (.lst us) ∧ Reps K G (row.map zF) us
section
variable {K : PySem.W.Frag} {H0 H H1 : Hp} {r b t : Addr} {p : Pict} {row : List Cel}
theorem yJ.new (hs : Same H0 H) (hr : H r = none) : yJ K H0 (upd H r (.lst [])) r [] := by
  refine ⟨H0, [], fun _ _ e => e, vz hs (hs.free hr), fun b hb => ?_, by simp, zg, rfl, fun i row q => by simp at q⟩
  rw [List.mem_singleton.mp hb]
  exact hs.free hr
theorem yJ.same (g : yJ K H0 H r p) (hs : Same H H1) : yJ K H0 H1 r p := by
  obtain ⟨G, as, h1, h2, h3, h4, h5, h6, h7⟩ := g
  refine ⟨G, as, h1, h2.trans hs, h3, h4, hs _ _ h5, h6, fun i row q => ?_⟩
  obtain ⟨a, us, k1, k2, k3⟩ := h7 i row q
  exact ⟨a, us, k1, hs _ _ k2, k3⟩
theorem yJ.base (g : yJ K H0 H r p) : Same H0 H := by
  obtain ⟨G, as, h1, h2, _⟩ := g
  exact h1.trans h2
theorem yJ.lst (g : yJ K H0 H r p) : ∃ vs, H r = some (.lst vs) ∧ vs.length = p.length := by
  obtain ⟨G, as, h1, h2, h3, h4, h5, h6, h7⟩ := g
  exact ⟨_, h5, by rw [List.length_map]; exact h6⟩
theorem yJ.put {ys vs : List V} {H2 : Hp} (g : yJ K H0 H r p) (hv : H r = some (.lst vs)) (hy : Reps K H0 (row.map zF) ys) (hb : H b = none) (hs : Same H H2) (hb2 : H2 b = some (.lst ys)) : yJ K H0 (upd H2 r (.lst (vs ++ [.ref b]))) r (p ++ [row]) := by
  obtain ⟨G, as, h1, h2, h3, h4, h5, h6, h7⟩ := g
  rw [hv] at h5
  have h5 : vs = as.map V.ref := by cases h5; rfl
  subst h5
  have nb : ∀ (c : Addr) (o : HO), H c = some o → c ≠ b := fun c o q z => by
    rw [z, hb] at q
    cases q
  have inH : ∀ c ∈ as, ∃ o, H c = some o := fun c hc => by
    obtain ⟨i, hi, e⟩ := List.getElem_of_mem hc
    obtain ⟨a, us, k1, k2, _⟩ := h7 i _ (List.getElem?_eq_getElem (h6 ▸ hi))
    rw [List.getElem?_eq_getElem hi] at k1
    cases k1
    exact ⟨_, e ▸ k2⟩
  have nr := nb r _ hv
  have nin : b ∉ as := fun z => by
    obtain ⟨o, q⟩ := inH b z
    exact nb b o q rfl
  obtain ⟨n1, n2⟩ := List.nodup_cons.mp h4
  refine ⟨G, as ++ [b], h1, fun c o q => ?_, fun c hc => ?_, ?_, by rw [List.map_append]; exact zg, by simp [h6], fun i y q => ?_⟩
  · have c1 : c ≠ r := fun z => by rw [z, h3 r List.mem_cons_self] at q; cases q
    rw [zd c1]
    exact hs _ _ (h2 _ _ q)
  · rcases List.mem_cons.mp hc with z | z
    · rw [z]
      exact h3 r List.mem_cons_self
    · rcases List.mem_append.mp z with z | z
      · exact h3 c (List.mem_cons_of_mem _ z)
      · rw [List.mem_singleton.mp z]
        exact h2.free hb
  · rw [List.nodup_cons]
    refine ⟨fun z => ?_, List.nodup_append.mpr ⟨n2, by simp, fun x hx y hy z => ?_⟩⟩
    · rcases List.mem_append.mp z with z | z
      · exact n1 z
      · exact nr (List.mem_singleton.mp z)
    · rw [z, List.mem_singleton.mp hy] at hx
      exact nin hx
  · by_cases hi : i < p.length
    · rw [List.getElem?_append_left hi] at q
      obtain ⟨a, us, k1, k2, k3⟩ := h7 i y q
      have ar : a ≠ r := fun z => n1 (z ▸ List.mem_of_getElem? k1)
      exact ⟨a, us, by rw [List.getElem?_append_left (h6 ▸ hi)]; exact k1, by rw [zd ar]; exact hs _ _ k2, k3⟩
    · have e : i = p.length := by
        have := (List.getElem?_eq_some_iff.mp q).1
        simp at this
        omega
      subst e
      simp only [List.getElem?_concat_length, Option.some.injEq] at q
      subst q
      exact ⟨b, ys, by rw [← h6]; simp, by rw [zd nr.symm]; exact hb2, Reps.same h1 _ _ hy⟩
theorem yJ.push {ys vs : List V} (g : yJ K H0 H r p) (hv : H r = some (.lst vs)) (hy : Reps K H0 (row.map zF) ys) (hb : H b = none) : yJ K H0 (upd (upd H b (.lst ys)) r (.lst (vs ++ [.ref b]))) r (p ++ [row]) := g.put hv hy hb (yx hb) zg
theorem Reps.set {G : Hp} : ∀ {ds : List PyData} {xs : List V} (j : Nat) {d : PyData} {x : V}, Reps K G ds xs → Rep K G d x → Reps K G (ds.set j d) (xs.set j x)
  | [], _, j, d, x, h, _ => by
    rw [show _ = [] from h]
    rfl
  | d0 :: ds, _, j, d, x, h, h' => by
    obtain ⟨y, q, rfl, h1, h2⟩ := h
    cases j with
    | zero => exact ⟨x, q, rfl, h', h2⟩
    | succ j => exact ⟨y, _, rfl, h1, h2.set j h'⟩
theorem K4 {c : Cel} {u : V} (h : Rep K H (zF c) u) : ∃ t, u = .ref t ∧ SqT K H t [.str c.1, .int c.2] := by
  obtain ⟨t, xs, rfl, h1, x1, q1, rfl, e1, x2, q2, rfl, e2, e3⟩ := h
  cases e1
  cases e2
  cases e3
  exact ⟨t, rfl, h1⟩
theorem yJ.cell {i j : Nat} {c : Cel} (g : yJ K H0 H r p) (hi : p[i]? = some row) (hj : row[j]? = some c) : ∃ vs a us t, H r = some (.lst vs) ∧ atI vs (i : Int) = some (.ref a) ∧ H a = some (.lst us) ∧ us.length = row.length ∧ atI us (j : Int) = some (.ref t) ∧ SqT K H t [.str c.1, .int c.2] ∧
    ∀ H2 t2 z n, Same H H2 → H2 t2 = none → yJ K H0 (upd (upd H2 t2 (.tup [.str z, .int n])) a (.lst (us.set j (.ref t2)))) r (p.set i (row.set j (z, n))) := by
  obtain ⟨G, as, h1, h2, h3, h4, h5, h6, h7⟩ := g
  obtain ⟨a, us, k1, k2, k3⟩ := h7 i row hi
  obtain ⟨u, hu, ru⟩ := k3.at j (d := zF c) (by rw [List.getElem?_map, hj]; rfl)
  obtain ⟨t, rfl, ht⟩ := K4 (Rep.same h2 _ _ ru)
  obtain ⟨n1, n2⟩ := List.nodup_cons.mp h4
  have am : a ∈ as := List.mem_of_getElem? k1
  have ar : a ≠ r := fun z => n1 (z ▸ am)
  refine ⟨_, a, us, t, h5, yu (by rw [List.getElem?_map, k1]; rfl), k2, by rw [← k3.length, List.length_map], yu hu, ht, fun H2 t2 z n hs ht2 => ?_⟩
  have nt : ∀ (b : Addr) (o : HO), H2 b = some o → b ≠ t2 := fun b o q y => by
    rw [y, ht2] at q
    cases q
  have gt : G t2 = none := (h2.trans hs).free ht2
  have sn : Same G (upd G t2 (.tup [.str z, .int n])) := yx gt
  refine ⟨upd G t2 (.tup [.str z, .int n]), as, h1.trans sn, fun b o q => ?_, fun b hb => ?_, h4, ?_, by rw [List.length_set]; exact h6, fun i' y q => ?_⟩
  · have na : b ≠ a := fun y => by
      rw [y] at q
      by_cases w : a = t2
      · exact nt a _ (hs _ _ k2) w
      · rw [zd w, h3 a (List.mem_cons_of_mem _ am)] at q
        cases q
    rw [zd na]
    by_cases w : b = t2
    · rw [w] at q ⊢
      rw [zg] at q ⊢
      exact q
    · rw [zd w] at q ⊢
      exact hs _ _ (h2 _ _ q)
  · have nb : b ≠ t2 := by
      rcases List.mem_cons.mp hb with y | y
      · rw [y]
        exact nt r _ (hs _ _ h5)
      · obtain ⟨k, hk, e⟩ := List.getElem_of_mem y
        obtain ⟨a', us', m1, m2, _⟩ := h7 k _ (List.getElem?_eq_getElem (h6 ▸ hk))
        rw [List.getElem?_eq_getElem hk] at m1
        cases m1
        rw [← e]
        exact nt _ _ (hs _ _ m2)
    rw [zd nb]
    exact h3 b hb
  · rw [zd ar.symm, zd (nt r _ (hs _ _ h5))]
    exact hs _ _ h5
  · by_cases e : i' = i
    · subst e
      have hl : i' < p.length := (List.getElem?_eq_some_iff.mp hi).1
      rw [List.getElem?_set_self hl] at q
      cases q
      refine ⟨a, _, k1, zg, ?_⟩
      rw [List.map_set]
      exact (Reps.same sn _ _ k3).set j ⟨t2, _, rfl, SqT.of zg, .str z, _, rfl, rfl, .int n, [], rfl, rfl, rfl⟩
    · rw [List.getElem?_set_ne (Ne.symm e)] at q
      obtain ⟨a', us', m1, m2, m3⟩ := h7 i' y q
      have na : a' ≠ a := fun w => by
        rw [w] at m1
        have l1 := (List.getElem?_eq_some_iff.mp m1)
        have l2 := (List.getElem?_eq_some_iff.mp k1)
        exact e ((List.getElem_inj n2).mp (l1.2.trans l2.2.symm))
      exact ⟨a', us', m1, by rw [zd na, zd (nt a' _ (hs _ _ m2))]; exact hs _ _ m2, Reps.same sn _ _ m3⟩
theorem yJ.done (g : yJ K H0 H r p) : Rep K H (zdp p) (.ref r) := by
  obtain ⟨G, as, h1, h2, h3, h4, h5, h6, h7⟩ := g
  refine ⟨r, _, rfl, SqL.of h5, ?_⟩
  clear h5 h4 h3
  induction p generalizing as with
  | nil =>
    cases as with
    | nil => rfl
    | cons _ _ => cases h6
  | cons y p ih =>
    cases as with
    | nil => cases h6
    | cons a as =>
      obtain ⟨a', us, k1, k2, k3⟩ := h7 0 y rfl
      cases k1
      exact ⟨.ref a, as.map V.ref, rfl, ⟨a, us, rfl, SqL.of k2, Reps.same h2 _ _ k3⟩, ih as (by simpa using h6) fun i z q => h7 (i + 1) z (by simpa using q)⟩
end
end L2
namespace L2
open PySem PySem.Spec PyProof.Rows
noncomputable def rLo (K : PySem.W.Frag) : List V → Hp → VK → Prop := fun xs H Q => ∃ p ys, xs = [.ref p] ∧ (SqL K H p ys ∨ SqT K H p ys) ∧ ∀ l : Addr, H l = none → Q (.ref l) (upd H l (.lst ys))
section
variable {X : Cx} {K : PySem.W.Frag}
theorem zcV (h : X.K = K) : zJ X (.type "list") (rLo K) := by
  subst h
  exact ZO
theorem yS (h : X.K = K) : SlR X (QK K) := by
  subst h
  exact K1
theorem z7 (h : X.K = K) : IxR X (ZJ K) := by
  subst h
  exact K0
end
end L2
namespace L2
open PySem PySem.Spec PyProof.Rows
noncomputable def QT (K : PySem.W.Frag) : R2 := fun x y H Q => ∃ l b xs zs, x = .ref l ∧ y = .ref b ∧ SqL K H l xs ∧ SqL K H b zs ∧ xs.length + zs.length ≤ sizeLine ∧ ∀ p, H p = none → Q (.ref p) (upd H p (.lst (xs ++ zs)))
theorem xa {X : Cx} {K : PySem.W.Frag} (hK : X.K = K) : OpR X (binaryOp .Add) (QT K) := by
  subst hK
  intro pins s σ H x y v u Q I rx ry h
  obtain ⟨l, b, xs, zs, rfl, rfl, hH, hB, hz, q⟩ := h
  cases rx
  cases ry
  obtain ⟨its, r, ⟨o1, n1, e1, c1, d1, m1⟩, z1⟩ := I.list hH
  obtain ⟨ita, r2, ⟨o2, n2, e2, c2, d2, m2⟩, z2⟩ := I.list hB
  obtain ⟨g1, g2, g3, g4⟩ := o1
  obtain ⟨f1, f2, f3, f4⟩ := o2
  simp only at c1 d1 m1 c2 d2 m2
  subst c1 d1 m1 c2 d2 m2
  have hs : its.length + ita.length ≤ sizeLine := by
    rw [← r.length, ← r2.length]
    exact hz
  have ea : its.toArray ++ ita.toArray = (its ++ ita).toArray := by simp
  refine concat_meets ⟨_, e1, rfl⟩ ⟨_, e2, rfl⟩ noFill_list_add seq_list_add F.slot_list_add F.entry_list_add (F.args_list_add_2 _ _) (list_addW l b its.toArray ita.toArray n1 n2 none none g4 f4 (by simpa using hs)) ⟨e1, e2, ?_⟩
  rw [ea]
  exact ⟨.ref _, _, I.lnew (t' := s.toks) (r.append r2) (by rw [List.length_append]; omega), rfl, q _ I.fresh⟩
theorem Reps.drop {K : PySem.W.Frag} {H : Hp} : ∀ {ds : List PyData} {xs : List V} (k : Nat), Reps K H ds xs → Reps K H (ds.drop k) (xs.drop k)
  | [], _, k, h => by
    rw [show _ = [] from h]
    simp only [List.drop_nil]
    rfl
  | d :: ds, _, k, h => by
    obtain ⟨y, q, rfl, h1, h2⟩ := h
    cases k with
    | zero => exact ⟨y, q, rfl, h1, h2⟩
    | succ k => exact h2.drop k
theorem Reps.take {K : PySem.W.Frag} {H : Hp} : ∀ {ds : List PyData} {xs : List V} (k : Nat), Reps K H ds xs → Reps K H (ds.take k) (xs.take k)
  | [], _, k, h => by
    rw [show _ = [] from h]
    simp only [List.take_nil]
    rfl
  | d :: ds, _, k, h => by
    obtain ⟨y, q, rfl, h1, h2⟩ := h
    cases k with
    | zero => rfl
    | succ k => exact ⟨y, _, rfl, h1, h2.take k⟩
theorem Reps.append {K : PySem.W.Frag} {H : Hp} : ∀ {ds es : List PyData} {xs ys : List V}, Reps K H ds xs → Reps K H es ys → Reps K H (ds ++ es) (xs ++ ys)
  | [], _, _, _, h, h' => by
    rw [show _ = [] from h]
    exact h'
  | d :: ds, _, _, _, h, h' => by
    obtain ⟨y, q, rfl, h1, h2⟩ := h
    exact ⟨y, _, rfl, h1, h2.append h'⟩
theorem IsPic.more {p : Pict} {w h : Nat} (ip : IsPic p w h) (h2 : h < 12) : IsPic (p ++ p.take 1) w (h + 1) := by
  have hm : ∀ r, r ∈ p ++ p.take 1 → r ∈ p := fun r hr => (List.mem_append.mp hr).elim id List.mem_of_mem_take
  have := ip.h1
  exact ⟨by rw [List.length_append, List.length_take, ip.hh]; omega, fun r hr => ip.ww r (hm r hr), fun r hr => ip.ok r (hm r hr), ip.w1, ip.w2, by omega, by omega⟩
theorem IsPic.rows {p : Pict} {w h w' : Nat} (g : List Cel → List Cel) (ip : IsPic p w h) (hg : ∀ r ∈ p, (g r).length = w') (hm : ∀ r c, c ∈ g r → c ∈ r) (h1 : 1 ≤ w') (h2 : w' ≤ 24) : IsPic (p.map g) w' h := by
  refine ⟨by rw [List.length_map, ip.hh], fun r hr => ?_, fun r hr c hc => ?_, h1, h2, ip.h1, ip.h2⟩
  · obtain ⟨y, hy, rfl⟩ := List.mem_map.mp hr
    exact hg y hy
  · obtain ⟨y, hy, rfl⟩ := List.mem_map.mp hr
    exact ip.ok y hy c (hm y c hc)
noncomputable def J4 (p : Pict) (h w : Nat) : Pict := (List.range w).map fun c => (List.range h).map fun i => uY p i c
theorem IsPic.turn {p : Pict} {w h : Nat} (ip : IsPic p w h) (hw : w ≤ 12) : IsPic (J4 p h w) h w := by
  refine ⟨by simp [J4], fun r hr => ?_, fun r hr c hc => ?_, ip.h1, by have := ip.h2; omega, ip.w1, hw⟩
  · obtain ⟨y, _, rfl⟩ := List.mem_map.mp hr
    simp
  · obtain ⟨y, hy, rfl⟩ := List.mem_map.mp hr
    obtain ⟨i, hi, rfl⟩ := List.mem_map.mp hc
    obtain ⟨_, _, _, _, ok⟩ := QS ip (List.mem_range.mp hi) (List.mem_range.mp hy)
    exact ok
end L2
namespace L2
open PySem PySem.Spec PyProof.Rows
theorem Uu (o : Obj) (f : Array Value → Array Value) : (o.mapFields f).dict = o.dict := by
  rcases o with ⟨_, _, q, _⟩
  cases q <;> rfl
noncomputable def Fly (h : Heap) (e C : Addr) (fp : List Addr) : Prop := ∃ oe vs, h.get? e = some oe ∧ (oe.cls = .ref C ∧ oe.dict = none) ∧ oe.data = .fields vs ∧ 1 < vs.size ∧
  ((vs[1]? = some .none ∧ fp = [e]) ∨ ∃ T oT ts, vs[1]? = some (.ref T) ∧ T ≠ e ∧ h.get? T = some oT ∧ oT.data = .fields ts ∧ ts[3]? = some .none ∧ fp = [e, T])
theorem Fly.mem {h : Heap} {e C : Addr} {fp : List Addr} (F : Fly h e C fp) : ∀ b ∈ fp, ∃ o vs, h.get? b = some o ∧ o.data = .fields vs := by
  obtain ⟨oe, vs, he, _, hd, _, ⟨_, rfl⟩ | ⟨T, oT, ts, _, _, hT, hdT, _, rfl⟩⟩ := F
  · intro b hb
    cases List.mem_singleton.mp hb
    exact ⟨oe, vs, he, hd⟩
  · intro b hb
    rcases List.mem_cons.mp hb with rfl | hb
    · exact ⟨oe, vs, he, hd⟩
    · cases List.mem_singleton.mp hb
      exact ⟨oT, ts, hT, hdT⟩
theorem Fly.self {h : Heap} {e C : Addr} {fp : List Addr} (F : Fly h e C fp) : e ∈ fp := by
  obtain ⟨_, _, _, _, _, _, ⟨_, rfl⟩ | ⟨_, _, _, _, _, _, _, _, rfl⟩⟩ := F <;> exact List.mem_cons_self
theorem Fly.keep {h h' : Heap} {e C : Addr} {fp : List Addr} (F : Fly h e C fp) (k : ∀ b ∈ fp, ∀ o, h.get? b = some o → h'.get? b = some o) : Fly h' e C fp := by
  have hs := F.self
  obtain ⟨oe, vs, he, hc, hd, hz, h1 | ⟨T, oT, ts, h1, h2, hT, hdT, h3, rfl⟩⟩ := F
  · exact ⟨oe, vs, k _ hs _ he, hc, hd, hz, .inl h1⟩
  · exact ⟨oe, vs, k _ hs _ he, hc, hd, hz, .inr ⟨T, oT, ts, h1, h2, k _ (by simp) _ hT, hdT, h3, rfl⟩⟩
section
variable {M : Model} {A : Around} {E : Value → Shared → Prop} {s : Shared}
structure Noted (fs fp : List Addr) (h h' : Heap) : Prop where
  keep : ∀ b o, h.get? b = some o → b ∉ fp → b ∉ fs → h'.get? b = some o
  slot : ∀ b o, h.get? b = some o → b ∉ fp → ∃ sl, h'.get? b = some { o with slots := sl }
  there : ∀ b o, h.get? b = some o → ∃ o', h'.get? b = some o'
theorem Noted.size {fs fp : List Addr} {h h' : Heap} (n : Noted fs fp h h') (hp : h'.objs.size < h.objs.size → False) : h.objs.size ≤ h'.objs.size := Nat.not_lt.mp hp
theorem ZQ {base : Heap} {env : Env} {outer : List Env} {L e C : Addr} {oe : Obj} {vs : Array Value} {head : Value} {hadNext : Bool} {Q : Unit → Shared → Prop}
    (hfr : A.frames = some (env :: outer)) (hl : s.heap.FunFrames base (env :: outer)) (hf : env.frame = some L) (he : s.heap.get? e = some oe) (hc : oe.cls = .ref C ∧ oe.dict = none) (hd : oe.data = .fields vs) (hz : 1 < vs.size)
    (h : ∀ h' T, s.heap.objs.size ≤ T → s.heap.objs.size ≤ h'.objs.size → Noted (frs (env :: outer)) [e] s.heap h' → Fly h' e C [e, T] → Q () { s with heap := h' }) :
    wpAny M A (do let a ← frameOf env; let pl ← entryPlaceOf L hadNext; let b ← EntryCells.newEntry head a .none (rawInt L) .none pl; setField (.ref e) 1 b) (fun _ s' => wpAny M A (setFlight (.ref e) none) Q E s') E s := by
  have ef : e ∉ frs (env :: outer) := fun hm => by
    obtain ⟨_, o, ho, hn⟩ := hl.mem hm
    rw [he] at ho
    cases ho
    exact hn vs hd
  refine wpAny_bind (wpAny_frameOf_fun hfr hl hf fun h1 s1 => ?_)
  refine wpAny_bind (wpAny_entryPlaceOf fun pl hp => ?_)
  unfold EntryCells.newEntry newFields
  refine wpAny_bind (wpAny_newObj_type ?_ (hp.sizeOk5 _ _ _ _ _))
  generalize hO : ({ cls := .type "traceback", dict := none, data := .fields ([head, .ref L, .none, rawInt L, .none] ++ (if pl.isEmpty then List.replicate 6 Value.none else pl)).toArray } : Obj) = O
  have he1 : h1.get? e = some oe := (s1.2.1 e ef).trans he
  have he2 : (h1.push O).get? e = some oe := Heap.get?_push_of_some _ he1
  refine wpAny_setField he2 hd hz ?_
  have nTe : h1.objs.size ≠ e := Nat.ne_of_gt (Heap.lt_size he1)
  have hd3 := Obj.data_mapFields hd (·.setIfInBounds 1 (Value.ref h1.objs.size))
  have he3 := Heap.get?_update_self (Obj.mapFields (·.setIfInBounds 1 (Value.ref h1.objs.size))) he2 (Obj.isFreed_of_fields hd3)
  have hOd : O.data = .fields ([head, .ref L, .none, rawInt L, .none] ++ (if pl.isEmpty then List.replicate 6 Value.none else pl)).toArray := by rw [← hO]
  have hOf : O.isFreed = false := Obj.isFreed_of_fields hOd
  have hT3 : ((h1.push O).update e (Obj.mapFields (·.setIfInBounds 1 (Value.ref h1.objs.size)))).get? h1.objs.size = some O := (Heap.get?_update_other (h1.push O) (Obj.mapFields (·.setIfInBounds 1 (Value.ref h1.objs.size))) (Ne.symm nTe)).trans (Heap.get?_push_size h1 hOf)
  unfold setFlight
  refine wpAny_bind (wpAny_field he3 hd3 (x := .ref h1.objs.size) (by simp [hz]) ?_)
  rw [if_pos (show (Value.ref h1.objs.size != Value.none) = true from by simp)]
  have h3 : 3 < ([head, .ref L, .none, rawInt L, .none] ++ (if pl.isEmpty then List.replicate 6 Value.none else pl)).toArray.size := by
    simp only [List.size_toArray, List.length_append, List.length_cons, List.length_nil]
    omega
  have kp : ∀ b o, b ≠ e → h1.get? b = some o → (((h1.push O).update e (Obj.mapFields (·.setIfInBounds 1 (Value.ref h1.objs.size)))).update h1.objs.size (Obj.mapFields (·.setIfInBounds 3 ((none : Option Addr).elim Value.none fun f => rawInt f)))).get? b = some o := fun b o hb q => by
    rw [Heap.get?_update_other _ _ (Nat.ne_of_gt (Heap.lt_size q)), Heap.get?_update_other _ _ (Ne.symm hb)]
    exact Heap.get?_push_of_some _ q
  have hd4 := Obj.data_mapFields hOd (·.setIfInBounds 3 ((none : Option Addr).elim Value.none fun f => rawInt f))
  have he4 : (((h1.push O).update e (Obj.mapFields (·.setIfInBounds 1 (Value.ref h1.objs.size)))).update h1.objs.size (Obj.mapFields (·.setIfInBounds 3 ((none : Option Addr).elim Value.none fun f => rawInt f)))).get? e = some (oe.mapFields (·.setIfInBounds 1 (Value.ref h1.objs.size))) :=
    (Heap.get?_update_other _ _ nTe).trans he3
  refine wpAny_setField hT3 hOd h3 (h _ h1.objs.size (Nat.le_of_eq s1.1.symm) ?_ ⟨?_, ?_, ?_⟩ ?_)
  · rw [Heap.size_after_update, Heap.size_after_update, Heap.size_push, s1.1]
    exact Nat.le_succ _
  · intro b o q nb nf
    exact kp b o (fun z => nb (by simp [z])) ((s1.2.1 b nf).trans q)
  · intro b o q nb
    obtain ⟨sl, q2⟩ := s1.2.2 b o q
    exact ⟨sl, kp b _ (fun z => nb (by simp [z])) q2⟩
  · intro b o q
    by_cases z : b = e
    · rw [z]
      exact ⟨_, he4⟩
    · obtain ⟨sl, q2⟩ := s1.2.2 b o q
      exact ⟨_, kp b _ z q2⟩
  · refine ⟨_, _, he4, ⟨(Obj.cls_mapFields _ _).trans hc.1, (Uu _ _).trans hc.2⟩, hd3, by simpa using hz, .inr ⟨_, _, _, by simp [hz], nTe, Heap.get?_update_self _ hT3 (Obj.isFreed_of_fields hd4), hd4, ?_, rfl⟩⟩
    rw [Array.getElem?_setIfInBounds_self_of_lt h3]
    rfl
theorem Xp {base : Heap} {env : Env} {outer : List Env} {L e C : Addr} {fp : List Addr} {Q : Unit → Shared → Prop}
    (hfr : A.frames = some (env :: outer)) (hl : s.heap.FunFrames base (env :: outer)) (hf : env.frame = some L) (F : Fly s.heap e C fp)
    (h : ∀ h' T, s.heap.objs.size ≤ T → s.heap.objs.size ≤ h'.objs.size → Noted (frs (env :: outer)) fp s.heap h' → Fly h' e C [e, T] → Q () { s with heap := h' }) :
    wpAny M A (noteFrame (.ref e) env) (fun _ s' => wpAny M A (setFlight (.ref e) none) Q E s') E s := by
  obtain ⟨oe, vs, he, hc, hd, hz, ⟨h1, rfl⟩ | ⟨T, oT, ts, h1, nT, hT, hdT, h3, rfl⟩⟩ := F
  · unfold noteFrame
    simp only [hf]
    refine wpAny_bind (wpAny_field he hd h1 ?_)
    rw [if_neg (by decide)]
    exact ZQ hfr hl hf he hc hd hz h
  · unfold noteFrame
    simp only [hf]
    refine wpAny_bind (wpAny_field he hd h1 ?_)
    rw [if_pos (show (Value.ref T != Value.none) = true from by simp)]
    refine wpAny_bind (wpAny_field hT hdT h3 ?_)
    rw [if_neg (show ¬ ((Value.none == rawInt L) = true) from by simp [rawInt])]
    refine wpAny_bind (wpAny_setField hT hdT (Array.getElem?_eq_some_iff.mp h3).1 ?_)
    have oth : ∀ b, b ≠ T → (s.heap.update T (Obj.mapFields (·.setIfInBounds 3 Value.none))).get? b = s.heap.get? b := fun b hb => Heap.get?_update_other _ _ (Ne.symm hb)
    have hd4 := Obj.data_mapFields hdT (·.setIfInBounds 3 Value.none)
    have hT4 := Heap.get?_update_self (Obj.mapFields (·.setIfInBounds 3 Value.none)) hT (Obj.isFreed_of_fields hd4)
    have noR : ∀ b o, s.heap.get? b = some o → (∀ vs, o.data ≠ .fields vs) → b ≠ T := fun b o hb hn z => by
      rw [z, hT] at hb
      cases hb
      exact hn ts hdT
    refine ZQ (s := { s with heap := s.heap.update T (Obj.mapFields (·.setIfInBounds 3 Value.none)) }) hfr (hl.of_keeps fun b o hb hn => ⟨o, (oth b (noR b o hb hn)).trans hb, rfl⟩) hf ((oth e (Ne.symm nT)).trans he) hc hd hz fun h' T' z1 z2 N F' => ?_
    have sz : (s.heap.update T (Obj.mapFields (·.setIfInBounds 3 Value.none))).objs.size = s.heap.objs.size := Heap.size_after_update _ _ _
    have z1' : s.heap.objs.size ≤ T' := by rw [← sz]; exact z1
    have z2' : s.heap.objs.size ≤ h'.objs.size := by rw [← sz]; exact z2
    refine h h' T' z1' z2' ⟨fun b o q nb nf => ?_, fun b o q nb => ?_, fun b o q => ?_⟩ F'
    · have nbT : b ≠ T := fun z => nb (by simp [z])
      exact N.keep b o ((oth b nbT).trans q) (fun z => nb (by rw [List.mem_singleton] at z; simp [z])) nf
    · have nbT : b ≠ T := fun z => nb (by simp [z])
      exact N.slot b o ((oth b nbT).trans q) (fun z => nb (by rw [List.mem_singleton] at z; simp [z]))
    · by_cases z : b = T
      · rw [z]
        exact N.there T _ hT4
      · exact N.there b o ((oth b z).trans q)
theorem QU {base : Heap} {env : Env} {outer : List Env} {L e C : Addr} {fp : List Addr} {Q : Unit → Shared → Prop}
    (hfr : A.frames = some (env :: outer)) (hl : s.heap.FunFrames base (env :: outer)) (hf : env.frame = some L) (F : Fly s.heap e C fp)
    (h : ∀ h' T, s.heap.objs.size ≤ T → s.heap.objs.size ≤ h'.objs.size → Noted (frs (env :: outer)) fp s.heap h' → Fly h' e C [e, T] → Q () { s with heap := h' }) :
    wpAny M A (leaving env (.ref e)) Q E s := by
  unfold leaving
  exact wpAny_bind (Xp hfr hl hf F h)
end
noncomputable def CX1 (P : Program) (w : World) : CXT := fun outer H s E ev s' => ∃ e C fp H', ev = .ref e ∧ Fly s'.heap e C fp ∧ (∀ b ∈ fp, s.heap.get? b = none ∧ H' b = none) ∧ s'.os = s.os ∧ AllBare s'.gens ∧ Un (frs outer) [] H H' s.heap s'.heap ∧ HOk P w H' s'.heap ∧ E (.ref C) none H'
noncomputable def FpX (X : Cx) (pins : List (Addr × Obj)) (H : Hp) (b : Addr) : Prop :=
  H b = none ∧ b ≠ X.env.locals ∧ b ∉ X.fs ∧ (b ∈ X.ex ∨ X.s₀.heap.get? b = none) ∧ (∀ x c, X.env.cells.lookup x = some c → c ≠ b) ∧ ∀ p ∈ X.pn ++ pins, p.1 ≠ b
theorem Inv.fpX {X : Cx} {pins : List (Addr × Obj)} {σ : St} {H H' : Hp} {s : Shared} {b : Addr} (I : Inv X pins σ H s) (hb : s.heap.get? b = none) (hn : H' b = none) : FpX X pins H' b := by
  have no : ∀ c o, s.heap.get? c = some o → c ≠ b := fun c o q z => by
    rw [z, hb] at q
    cases q
  refine ⟨hn, fun z => ?_, fun z => ?_, ?_, fun x c q => ?_, fun p hp => no _ _ (I.pin p hp).1⟩
  · obtain ⟨m, ⟨o, _, _, ho, _⟩, _⟩ := I.loc
    exact no _ _ ho z.symm
  · obtain ⟨_, o, ho, _⟩ := I.funs.mem z
    exact no _ _ ho rfl
  · by_cases hx : b ∈ X.ex
    · exact .inl hx
    · refine .inr ?_
      cases q : X.s₀.heap.get? b with
      | none => rfl
      | some o =>
        obtain ⟨o', q'⟩ := I.base.there b o q hx
        exact absurd rfl (no _ _ q')
  · obtain ⟨v, o, ho, _⟩ := I.cell x c q
    exact no _ _ ho
noncomputable def Up (X : Cx) (W : XK) (ev : Value) (s' : Shared) : Prop := ∃ pins σ H e C fp, ev = .ref e ∧ Inv X pins σ H s' ∧ Fly s'.heap e C fp ∧ (∀ b ∈ fp, FpX X pins H b) ∧ W (.ref C) none H
noncomputable def qy (X : Cx) (W : XK) : Prop := ∀ ev s', Up X W ev s' → X.xe ev s'
theorem qy.passes {X : Cx} {W : XK} (L : qy X W) : ug (CX1 X.prog X.w) X W := by
  rintro pins σ H s ev s' I ⟨e, C, fp, H', rfl, F, hf, os, bare, un, hok, hw⟩
  have I' : Inv X pins σ H' s' := I.call' (ch := []) os un hok bare fun b z => absurd z (by simp)
  exact L _ _ ⟨pins, σ, H', e, C, fp, rfl, I', F, fun b hb => I.fpX (H' := H') (hf b hb).1 (hf b hb).2, hw⟩
theorem xm {P : Program} {w : World} {K : PySem.W.Frag} {mg : Str → Option Value} {base : Heap} {N : List Str} {qual : Str} {scope : Scope} {f : Addr} {cd : Value} {A : Around} {outer : List Env} {s : Shared} {H : Hp} {E : XK} :
    qy (y6 (CX1 P w) P w K mg base N qual scope f cd A outer s H E) E := by
  rintro ev s' ⟨pins, σ, H', e, C, fp, rfl, I, F, hf, hw⟩
  show wpAny (model P w) _ (leaving _ (.ref e)) _ _ s'
  refine QU (base := base) (outer := outer) (L := s.heap.objs.size) I.ok.frames I.stack rfl F fun h' T z1 z2 N F' => ?_
  have fz : ∀ b ∈ fp, s.heap.get? b = none ∧ H' b = none := fun b hb => by
    obtain ⟨k0, _, _, k1, _⟩ := hf b hb
    rcases k1 with k1 | k1
    · exact absurd (show b ∈ ([] : List Addr) from k1) (by simp)
    · exact ⟨k1, k0⟩
  have old : ∀ b o, s.heap.get? b = some o → b ∉ fp := fun b o q z => by
    rw [(fz b z).1] at q
    cases q
  have u := I.base
  have notr : ∀ b o, H' b = some o → b ∉ fp ∧ b ∉ frs (envOfC qual scope s.heap.objs.size f cd :: outer) := fun b o q => by
    refine ⟨fun z => ?_, fun z => ?_⟩
    · rw [(fz b z).2] at q
      cases q
    · rw [I.stkFree b z] at q
      cases q
  refine ⟨e, C, [e, T], H', rfl, F', fun b hb => ?_, I.os, I.bare, ⟨fun b o q n hb hx => ?_, fun b o q n hb hx => ?_, u.free, fun b o q hx => ?_, u.tups, u.frzs, u.tbls⟩, fun b ob q => ?_, hw⟩
  · rcases List.mem_cons.mp hb with rfl | hb
    · exact fz _ F.self
    · cases List.mem_singleton.mp hb
      exact ⟨Heap.get?_none_of_le (Nat.le_trans I.sz z1), I.hok.fresh z1⟩
  · refine N.keep b o (u.keep b o q n hb hx) (old b o q) fun z => ?_
    rcases List.mem_cons.mp z with z | z
    · exact absurd (Heap.lt_size q) (by rw [z]; exact Nat.lt_irrefl _)
    · exact hb z
  · obtain ⟨sl, q1⟩ := u.slot b o q n hb hx
    obtain ⟨sl', q2⟩ := N.slot b _ q1 (old b o q)
    exact ⟨sl', q2⟩
  · obtain ⟨o', q1⟩ := u.there b o q hx
    exact N.there b o' q1
  · refine (I.hok b ob q).stay (fun c w' hc q2 => ?_) (fun _ z => z) fun _ _ z => z
    have hcH : ∃ o, H' c = some o := by
      rcases hc with z | z
      · rw [z]
        exact ⟨_, q⟩
      · exact ⟨_, z⟩
    obtain ⟨oc, hoc⟩ := hcH
    exact N.keep c w' q2 (notr c oc hoc).1 (notr c oc hoc).2
theorem Inv.noted {X : Cx} {pins : List (Addr × Obj)} {σ : St} {H : Hp} {s : Shared} {h' : Heap} {fp : List Addr} (I : Inv X pins σ H s) (N : Noted (frs X.stack) fp s.heap h') (hf : ∀ b ∈ fp, FpX X pins H b) : Inv X pins σ H { s with heap := h' } := by
  have old : ∀ b o, X.s₀.heap.get? b = some o → b ∉ X.ex → b ∉ fp := fun b o q hx z => by
    rcases (hf b z).2.2.2.1 with k | k
    · exact hx k
    · rw [k] at q
      cases q
  have far : ∀ b, b ≠ X.env.locals → b ∉ X.fs → b ∉ frs X.stack := fun b h1 h2 z => (List.mem_cons.mp (I.stkSub b z)).elim h1 h2
  have up : ∀ b o, X.s₀.heap.get? b = some o → b ≠ X.env.locals := fun b o q z => absurd (Heap.lt_size q) (by rw [z]; exact Nat.not_lt.mpr I.ok.above)
  have cel : ∀ x c, X.env.cells.lookup x = some c → ∀ v, s.heap.IsCell c v → h'.IsCell c v := fun x c q v ⟨o, ho, hd⟩ => by
    obtain ⟨sl, q2⟩ := N.slot c o ho fun z => (hf c z).2.2.2.2.1 x c q rfl
    exact ⟨_, q2, hd⟩
  have u := I.base
  refine ⟨I.ok, I.os, I.bare, ⟨fun b o q n hb hx => ?_, fun b o q n hb hx => ?_, u.free, fun b o q hx => ?_, u.tups, u.frzs, u.tbls⟩, ?_, fun x c q => ?_, I.free, I.freeC, fun p hp => ?_, fun b ob q => ?_, I.len⟩
  · exact N.keep b o (u.keep b o q n hb hx) (old b o q hx) (far b (up b o q) hb)
  · obtain ⟨sl, q1⟩ := u.slot b o q n hb hx
    obtain ⟨sl', q2⟩ := N.slot b _ q1 (old b o q hx)
    exact ⟨sl', q2⟩
  · obtain ⟨o', q1⟩ := u.there b o q hx
    exact N.there b o' q1
  · obtain ⟨m, ⟨o, es, ep, ho, r⟩, hl⟩ := I.loc
    obtain ⟨sl, q2⟩ := N.slot _ o ho fun z => (hf _ z).2.1 rfl
    refine ⟨m, ⟨_, es, ep, q2, r⟩, fun i x v e1 e2 e3 => ?_⟩
    obtain ⟨w', rw', l⟩ := hl i x v e1 e2 e3
    refine ⟨w', rw', ?_⟩
    rcases l with l | ⟨k, c, q, z⟩
    · exact .inl l
    · exact .inr ⟨k, c, q, cel x c q _ z⟩
  · obtain ⟨v, z⟩ := I.cell x c q
    exact ⟨v, cel x c q v z⟩
  · obtain ⟨q, n, ne, nf, d⟩ := I.pin p hp
    exact ⟨N.keep p.1 p.2 q (fun z => (hf _ z).2.2.2.2.2 p hp rfl) (far _ ne nf), n, ne, nf, d⟩
  · refine (I.hok b ob q).stay (fun c w' hc q2 => ?_) (fun _ z => z) fun _ _ z => z
    have hcH : ∃ o, H c = some o := by
      rcases hc with z | z
      · rw [z]
        exact ⟨_, q⟩
      · exact ⟨_, z⟩
    obtain ⟨oc, hoc⟩ := hcH
    refine N.keep c w' q2 (fun z => ?_) fun z => ?_
    · rw [(hf c z).1] at hoc
      cases hoc
    · rw [I.stkFree c z] at hoc
      cases hoc
end L2
namespace L2
open PySem PySem.W PySem.Spec PySem.Calls PyProof.Rows
structure XClass (K : PySem.W.Frag) (C : Addr) : Prop where
  ga : findIn K (.ref C) "__getattribute__" = some (some (.builtin "BaseException.__getattribute__"))
  gh : findIn K (.ref C) "__getattr__" = some none
  cl : findIn K (.ref C) "__class__" = some (some (.builtin "object.__class__"))
  sp : specialIn K (.builtin "object.__class__") "__get__" = some (some (.builtin "getset_descriptor.__get__"))
  tk : takesIn K (.builtin "object.__class__") = some true
  mo : mroIn K C (.type "object") = some true
  mb : mroIn K C (.type "BaseException") = some true
  cs : (clsIn K C).isSome = true
section
variable {prog : Program} {w : World} {A : Around} {E : Value → Shared → Prop} {s : Shared} {K : PySem.W.Frag} {e C : Addr} {oe : Obj}
theorem Uv {Q : Option Value → Shared → Prop} (XC : XClass K C) (X : K.In s.heap) (I : InstAt s.heap e oe C none) (h : Q (some (.ref C)) { s with toks := s.toks + 1 }) : wpAny (model prog w) A (getAttr? (.ref e) "__class__") Q E s := by
  obtain ⟨hh, g, d, t, os⟩ := s
  have L0 := I.type (M := model prog w)
  have L1 := looks_findIn (M := model prog w) X XC.ga
  have L2 := looks_findIn (M := model prog w) X XC.gh
  have L3 := looks_mroIn (M := model prog w) X XC.mb
  have hf : findObj K C none "__class__" = some (.bind (.builtin "getset_descriptor.__get__") (.builtin "object.__class__")) := by
    obtain ⟨cd, hc⟩ := Option.isSome_iff_exists.mp XC.cs
    unfold findObj
    rw [hc, Option.bind_some, XC.cl, Option.bind_some]
    simp [XC.sp, XC.tk]
  have L4 := looks_find (M := model prog w) X I hf
  have gaB := F.attr_ValueError.ga.bind (.ref e)
  have hx2 : (Value.builtin "BaseException.__getattribute__" == Value.builtin "object.__getattribute__") = false := by decide +kernel
  have hx1 : (onTheHeap (Value.ref C) && Value.builtin "BaseException.__getattribute__" == Value.builtin "object.__getattribute__") = false := by rw [hx2]; rfl
  unfold getAttr? getAttrBy? getAttrBy
  refine wpAny_bind (wpAny_mkText (wpAny_bind (wpAny_attempt (wpAny_holding (wpAny_bind (L0.at (wpAny_bind (L1.at ?_))))))))
  show wpAny _ _ (if (onTheHeap (Value.ref C) && Value.builtin "BaseException.__getattribute__" == Value.builtin "object.__getattribute__") = true then _ else getAttrByItsOwn _ _ _ _ _ _) _ _ _
  rw [hx1, if_neg (by decide)]
  unfold getAttrByItsOwn hookBefore
  rw [if_pos (show onTheHeap (Value.ref C) = true by rfl)]
  refine wpAny_bind (L2.at ?_)
  refine wpAny_bind (wpAny_attempt (wpAny_holding ?_))
  unfold callGetattribute boundAndCalled
  rw [if_neg (by decide)]
  refine wpAny_bind (wpAny_of_eq gaB ?_)
  refine wpAny_call (codeAny_call_builtin F.attr_ValueError.ga.plain F.entry_bexc_ga ?_)
  have hk : builtinKind "BaseException.__getattribute__" = some .slot := by decide +kernel
  have hsp : splitId "BaseException.__getattribute__" = some ("BaseException", "__getattribute__") := by decide +kernel
  have ha := F.args_bexc_ga (.ref e) (.str "__class__" t)
  simp only [checkBuiltinCall, hk, hsp]
  refine wpAny_bind ?_
  unfold isInstance
  repeat lk
  refine wpAny_run (h := none) (class_get (ox := oe) (od := none) X I XC.mo ?_)
  refine wpAny_pure (wpAny_pure ?_)
  exact handed_on rfl (wpAny_pure h)
theorem ZR (XC : XClass K C) : KitX K (.ref e) (.ref C) (fun h => InstAt h e oe C none) where
  ty := fun _ _ _ I => I.type
  it := fun _ _ X _ => by
    obtain ⟨cd, hc⟩ := Option.isSome_iff_exists.mp XC.cs
    unfold clsIn at hc
    split at hc
    · rename_i c' d' cd' sl' ho
      intro A' Q' E' s' k q
      unfold isType loadHead
      exact wpAny_bind (wpAny_loadPart (k _ _ (X _ _ ho)) (wpAny_pure q))
    · cases hc
  ne := fun h tp dd its n sl X htp => by
    obtain ⟨cd, hc⟩ := Option.isSome_iff_exists.mp XC.cs
    refine Bool.eq_false_iff.mpr fun q => ?_
    have z : C = tp := Value.ref.inj (beq_iff_eq.mp q)
    subst z
    unfold clsIn at hc
    split at hc
    · rename_i c' d' cd' sl' ho
      have z := (X _ _ ho).symm.trans htp
      cases z
    · cases hc
  ca := fun X I k => Uv XC X I k
end
end L2
namespace L2
open PySem PySem.W PySem.Spec PySem.Calls PyProof.Rows
theorem YS {P : Program} {w : World} {H : Hp} {h : Heap} {a : Addr} {o : HO} (x : zR P w H h a o) : ∃ u, h.get? a = some u := by
  cases o with
  | lst xs =>
    obtain ⟨_, _, _, _, q⟩ := x
    exact ⟨_, q⟩
  | tup xs =>
    obtain ⟨_, _, _, ⟨_, q, _⟩⟩ := x
    exact ⟨_, q⟩
  | dK kvs =>
    obtain ⟨_, _, _, _, o, _, _, q, _⟩ := x
    exact ⟨_, q⟩
  | dT kvs =>
    obtain ⟨_, _, _, _, o, _, _, q, _⟩ := x
    exact ⟨_, q⟩
  | set S n =>
    obtain ⟨o, _, _, _, q, _⟩ := x
    exact ⟨_, q⟩
  | ins C dx fs =>
    obtain ⟨_, _, _, q, _⟩ := x
    exact ⟨_, q⟩
  | own y => exact x
  | xd fs =>
    obtain ⟨_, ⟨o, _, _, q, _⟩, _⟩ := x
    exact ⟨_, q⟩
  | rng lo hi =>
    obtain ⟨_, _, _, q⟩ := x
    exact ⟨_, q⟩
  | frz o u => exact ⟨_, x.1⟩
  | tbl ps => exact ⟨_, x⟩
  | met f y => exact ⟨_, x⟩
  | ext φ => exact x.2.1
theorem QV {P : Program} {w : World} {H : Hp} {h : Heap} {a : Addr} (x : HOk P w H h) (n : h.get? a = none) : H a = none := by
  cases q : H a with
  | none => rfl
  | some o =>
    obtain ⟨u, z⟩ := YS (x a o q)
    rw [n] at z
    cases z
structure XMake (K : PySem.W.Frag) (C : Addr) : Prop where
  ex : ∃ B nid iid bmB, ExcBaseFacts B nid iid bmB ∧ excIn K C bmB nid = true
theorem XMake.obj {K : PySem.W.Frag} {C : Addr} {h : Heap} (m : XMake K C) (X : K.In h) : ∃ B nid iid bmB, ExcBaseFacts B nid iid bmB ∧ ∃ bm ns nm qn bs hd sn sub ab col dd k0 k1 k2 k3 k5 mN,
    h.get? C = some (excClassObj nm qn C ns bs bm hd sn sub ab col dd k0 k1 k2 k3 k5 nid) ∧ h.Ns ns mN ∧ mN "__init__" = none ∧ OwnTail h bmB bm := by
  obtain ⟨B, nid, iid, bmB, F, z⟩ := m.ex
  refine ⟨B, nid, iid, bmB, F, ?_⟩
  unfold excIn at z
  split at z
  · rename_i d0 c0 s0 lk0
    split at z
    · rename_i A0 tl j0 j1 j2 j3 nm0 j5 hm0 hs0
      rw [Bool.and_eq_true, Bool.and_eq_true, Bool.and_eq_true, Bool.and_eq_true, Bool.and_eq_true] at z
      obtain ⟨⟨⟨⟨⟨z1, z2⟩, z3⟩, z4⟩, z5⟩, z6⟩ := z
      rw [beq_iff_eq.mp z1] at hm0
      rw [beq_iff_eq.mp z2] at hs0
      obtain ⟨n0, b0, r0, y0, q0, h0, t0, u0, a0, l0, del0⟩ := c0
      have e3 : del0 = false := by simpa using z3
      have e1 : r0 = .ref C :: tl := hm0
      have e2 : s0 = #[j0, j1, j2, j3, some (.builtin nid), j5] := by
        cases s0
        exact congrArg Array.mk hs0
      subst e1 e2 e3
      have g1 := Heap.Ns.of_isNs (isNs_of_in X z5)
      have g2 := nsMap_none_of_in X z5 (beq_iff_eq.mp z6)
      exact ⟨tl, y0, n0, q0, b0, h0, t0, u0, a0, l0, d0, j0, j1, j2, j3, j5, _, X _ _ lk0, g1, g2, tail_of_in X z4⟩
    · cases z
  · cases z
noncomputable def ZS (t : TA) (C : Addr) (W : XK) : TS := fun _ σ H => t σ H fun vs H1 => vs.length ≤ sizeLine ∧ W (.ref C) none H1
theorem vB {X : Cx} {W : XK} {C : Addr} {x : Str} {np cpos pos : Pos} {e : Expr} {es : List Expr} {t : TA} (L : qy X W) (m : XMake X.K C) (hc : X.calm = true) (hg : Gl X x) (hm : X.mg x = some (.ref C)) (ha : PA X (e :: es) t)
    (hs : starEach (e :: es) X.env = (false, eval e X.env) :: starEach es X.env := by rfl) (hpl : (backTo cpos (starEach (e :: es) X.env)).any (·.1) = false := by rfl) (hdb : (x == ("__debug__" : Str)) = false := by decide) :
    PS X (.Raise (some (.Call (.Name x np) (e :: es) [] cpos)) none pos) (ZS t C W) := by
  intro pins s σ H D I h
  obtain ⟨B, nid, iid, bmB, F, bm, ns, nm, qn, bs, hd, sn, sub, ab, col, dd, k0, k1, k2, k3, k5, mN, lc, ln, hni, TL⟩ := m.obj I.mod.kin
  refine wpAny_Raise_call_subT (nm := nm) (q := qn) (N := ns) (bs := bs) (hdct := hd) (sn := sn) (sub := sub) (ab := ab) (col := col) (dd := dd) (k0 := k0) (k1 := k1) (k2 := k2) (k3 := k3) (k5 := k5) F (TL.hasType F.hasBase) (I.ok.hd hc) hpl hni (qt I hg hm ⟨rfl, ?_⟩ hdb)
  have ar := ha cpos pins s σ H _ I h
  rw [hs] at ar ⊢
  refine evalArgs_plain (thn ar fun us s1 ⟨vs, H1, I1, r, z, q⟩ => ?_)
  refine ⟨rfl, by rw [← r.length]; exact z, I1.bk _ _ lc, ln.keeps I1.bk, TL.keeps I1.bk, fun h' e' M => ?_⟩
  obtain ⟨t0, ht, _, _⟩ := M.there
  have I2 : Inv X pins σ H1 { s1 with heap := h' } := I1.kept (t' := s1.toks) M.keeps
  refine L _ _ ⟨pins, σ, H1, e', C, [e'], rfl, I2, ⟨_, _, ht, ⟨rfl, rfl⟩, rfl, Nat.lt_of_sub_pos (Nat.zero_lt_succ 4), .inl ⟨rfl, rfl⟩⟩, fun b hb => ?_, q⟩
  cases List.mem_singleton.mp hb
  exact I1.fpX M.new (QV I1.hok M.new)
theorem Fun.okX {P : Program} {w : World} {K : PySem.W.Frag} {mg : Str → Option Value} {base : Heap} {x qual : Str} {st : Stmt} {f : Addr} {fd : FuncData} {N ps : List Str} {k : Nat} {sp : Sp} (F : Fun K x qual st f fd) (S : FnScope N ps (defScope st))
    (len : ∀ vs H Q E, sp vs H Q E → vs.length = ps.length)
    (hbody : ∀ (cdv : Value) (A : Around) (outer : List Env) (s : Shared) (H : Hp) (vs : List V) (Q : VK) (E : XK), Room k (A.deeper (envOfC qual (defScope st) s.heap.objs.size f cdv)) → sp vs H Q E →
      ∃ t, PSs (y6 (CX1 P w) P w K mg base N qual (defScope st) f cdv A outer s H E) (defBody st) t ∧ t { nx := fun _ H' => Q .non H', rt := Q } (start N vs) H) : FnOk P w K mg base (CX1 P w) (k + 1) f fd ps sp := by
  obtain ⟨oc, od, kV, doc, pm, an, cdv, ct, osl, rfl, lk, hcd⟩ := F.ex
  exact Zk lk hcd S len fun A outer s H vs Q E hr hsp => hbody cdv A outer s H vs Q E hr hsp
end L2
namespace L2
open PySem PySem.W PySem.Spec PySem.Calls PyProof.Rows
noncomputable abbrev Cx.tried (X : Cx) (pins : List (Addr × Obj)) (Z : Value → Shared → Prop) : Cx := { X with pn := X.pn ++ pins, xe := Z }
noncomputable abbrev Cx.suite (X : Cx) (pins : List (Addr × Obj)) (e : Addr) : Cx := { X with A := X.A.mark (some (.ref e)), calm := false, pn := X.pn ++ pins, xe := fun _ _ => False }
section
variable {X : Cx} {pins ps : List (Addr × Obj)} {σ : St} {H : Hp} {s : Shared} {Z : Value → Shared → Prop} {e : Addr}
theorem Inv.tried (I : Inv X pins σ H s) (Z : Value → Shared → Prop) : Inv (X.tried pins Z) [] σ H s :=
  ⟨⟨I.ok.mod, I.ok.kind, I.ok.glob, I.ok.blt, I.ok.above, I.ok.inj, I.ok.has, I.ok.cab, I.ok.hd, I.ok.frames, I.ok.stk, I.ok.exf, I.ok.bs, I.ok.bsz, I.ok.noex, I.ok.exfs, I.ok.funs, I.ok.frf⟩,
    I.os, I.bare, I.base, I.loc, I.cell, I.free, I.freeC, fun p hp => I.pin p (by simpa using hp), I.hok, I.len⟩
theorem Inv.untried (I : Inv (X.tried pins Z) ps σ H s) : Inv X pins σ H s :=
  ⟨⟨I.ok.mod, I.ok.kind, I.ok.glob, I.ok.blt, I.ok.above, I.ok.inj, I.ok.has, I.ok.cab, I.ok.hd, I.ok.frames, I.ok.stk, I.ok.exf, I.ok.bs, I.ok.bsz, I.ok.noex, I.ok.exfs, I.ok.funs, I.ok.frf⟩,
    I.os, I.bare, I.base, I.loc, I.cell, I.free, I.freeC, fun p hp => I.pin p (List.mem_append_left _ hp), I.hok, I.len⟩
theorem Inv.suite (I : Inv X pins σ H s) (e : Addr) (hz : (X.A.mark (some (.ref e))).frames = X.A.frames) : Inv (X.suite pins e) [] σ H s :=
  ⟨⟨I.ok.mod, I.ok.kind, I.ok.glob, I.ok.blt, I.ok.above, I.ok.inj, I.ok.has, I.ok.cab, fun z => (Bool.noConfusion z), hz.trans I.ok.frames, I.ok.stk, I.ok.exf, I.ok.bs, I.ok.bsz, I.ok.noex, I.ok.exfs, I.ok.funs, I.ok.frf⟩,
    I.os, I.bare, I.base, I.loc, I.cell, I.free, I.freeC, fun p hp => I.pin p (by simpa using hp), I.hok, I.len⟩
theorem Inv.unsuite (I : Inv (X.suite pins e) ps σ H s) (c : X.calm = true → X.A.handled = none) (hz : (X.A.mark (some (.ref e))).frames = X.A.frames) : Inv X pins σ H s :=
  ⟨⟨I.ok.mod, I.ok.kind, I.ok.glob, I.ok.blt, I.ok.above, I.ok.inj, I.ok.has, I.ok.cab, c, hz.symm.trans I.ok.frames, I.ok.stk, I.ok.exf, I.ok.bs, I.ok.bsz, I.ok.noex, I.ok.exfs, I.ok.funs, I.ok.frf⟩,
    I.os, I.bare, I.base, I.loc, I.cell, I.free, I.freeC, fun p hp => I.pin p (List.mem_append_left _ hp), I.hok, I.len⟩
theorem Inv.forget (I : Inv X pins σ H s) : Inv X pins (List.replicate X.N.length none) H s :=
  I.weak (by rw [List.length_replicate]; exact I.len.symm) fun i v q => by
    rw [List.getElem?_replicate] at q
    split at q <;> cases q
theorem Uw {M : Model} {A : Around} {E : Value → Shared → Prop} {n : Str} {pos : Pos} {Q : Unit → Shared → Prop} (I : Inv X pins σ H s) (hl : X.env.kindOf n = some .local) (h : ∀ s', Inv X pins (List.replicate X.N.length none) H s' → Q () s') :
    wpAny M A (do bindName X.env n .none; unbindBehindTheSuite X.env n pos) Q E s := by
  obtain ⟨m, hn, _⟩ := id I.loc
  obtain ⟨oL, _, _, hoL, _⟩ := id hn
  refine wpAny_nameGoes hl hn (by rw [I.ok.kind]; rfl) fun h' m' hn' hs => h _ ?_
  have kp : ∀ b o, b ≠ X.env.locals → s.heap.get? b = some o → h'.get? b = some o := fun b o nb q => (hs.2 b nb).trans q
  have far : ∀ b o, X.s₀.heap.get? b = some o → b ≠ X.env.locals := fun b o q z => absurd (Heap.lt_size q) (by rw [z]; exact Nat.not_lt.mpr I.ok.above)
  have u := I.base
  refine ⟨I.ok, I.os, I.bare, ⟨fun b o q nn hb hx => kp b o (far b o q) (u.keep b o q nn hb hx), fun b o q nn hb hx => ?_, u.free, fun b o q hx => ?_, u.tups, u.frzs, u.tbls⟩, ⟨m', hn', fun i x v _ q _ => ?_⟩, fun x c q => ?_, I.free, I.freeC, fun p hp => ?_, fun b ob q => ?_, List.length_replicate⟩
  · obtain ⟨sl, q1⟩ := u.slot b o q nn hb hx
    exact ⟨sl, kp b _ (far b o q) q1⟩
  · obtain ⟨o', q1⟩ := u.there b o q hx
    exact ⟨o', kp b o' (far b o q) q1⟩
  · rw [List.getElem?_replicate] at q
    split at q <;> cases q
  · obtain ⟨v, o, ho, hd⟩ := I.cell x c q
    exact ⟨v, o, kp c o (I.cne x c q) ho, hd⟩
  · obtain ⟨q, nn, ne, nf, d⟩ := I.pin p hp
    exact ⟨kp p.1 p.2 ne q, nn, ne, nf, d⟩
  · refine (I.hok b ob q).stay (fun c w' hc q2 => kp c w' (fun z => ?_) q2) (fun _ z => z) fun _ _ z => z
    have hcH : ∃ o, H c = some o := by
      rcases hc with z | z
      · rw [z]
        exact ⟨_, q⟩
      · exact ⟨_, z⟩
    obtain ⟨oc, hoc⟩ := hcH
    rw [z, I.free] at hoc
    cases hoc
theorem Ux {M : Model} {A : Around} {E : Value → Shared → Prop} {e C T : Addr} {fs : List Addr} {Q : Unit → Shared → Prop} (F : Fly s.heap e C [e, T]) (h : ∀ h', Noted fs [e, T] s.heap h' → Fly h' e C [e, T] → Q () { s with heap := h' }) :
    wpAny M A (setFlight (.ref e) none) Q E s := by
  obtain ⟨oe, vs, he, hc, hd, hz, ⟨_, z⟩ | ⟨T', oT, ts, h1, nT, hT, hdT, h3, z⟩⟩ := F
  · cases z
  · cases z
    unfold setFlight
    refine wpAny_bind (wpAny_field he hd h1 ?_)
    rw [if_pos (show (Value.ref T != Value.none) = true from by simp)]
    have l3 := (Array.getElem?_eq_some_iff.mp h3).1
    refine wpAny_setField hT hdT l3 ?_
    have d4 := Obj.data_mapFields hdT (·.setIfInBounds 3 ((none : Option Addr).elim Value.none fun f => rawInt f))
    have g4 := Heap.get?_update_self (Obj.mapFields (·.setIfInBounds 3 ((none : Option Addr).elim Value.none fun f => rawInt f))) hT (Obj.isFreed_of_fields d4)
    have oth : ∀ b, b ≠ T → (s.heap.update T (Obj.mapFields (·.setIfInBounds 3 ((none : Option Addr).elim Value.none fun f => rawInt f)))).get? b = s.heap.get? b := fun b hb => Heap.get?_update_other _ _ (Ne.symm hb)
    refine h _ ⟨fun b o q nb _ => (oth b fun z => nb (by simp [z])).trans q, fun b o q nb => ⟨o.slots, (oth b fun z => nb (by simp [z])).trans q⟩, fun b o q => ?_⟩ ⟨oe, vs, (oth e (Ne.symm nT)).trans he, hc, hd, hz, .inr ⟨T, _, _, h1, nT, g4, d4, ?_, rfl⟩⟩
    · by_cases z : b = T
      · rw [z]
        exact ⟨_, g4⟩
      · exact ⟨o, (oth b z).trans q⟩
    · rw [Array.getElem?_setIfInBounds_self_of_lt l3]
      rfl
noncomputable def QW (tb : TS) (G : VK → Prop) : TS := fun D σ H => tb D σ H ∧ G D.rt
theorem zbD {body : List Stmt} {x n : Str} {np hpos pos : Pos} {b0 : Stmt} {suite : List Stmt} {tb : TS} {W : XK} {G : VK → Prop} {i N : Nat} {D : Addr} (hN : X.N.length = N) (hnd : X.N.Nodup) (hi : X.N[i]? = some n) (hl : X.env.kindOf n = some .local)
    (hg : Gl X x) (hm : X.mg x = some (.ref D)) (hx : ∀ C H, W (.ref C) none H → exmOne X.K (.ref C) (.ref D) = some true)
    (hb : ∀ pins Z, qy (X.tried pins Z) W → PSs (X.tried pins Z) body tb)
    (hs : ∀ pins e C oe H' rt, W (.ref C) none H' → H' e = none → (e, oe) ∈ pins → (oe.cls = .ref C ∧ oe.dict = none) → (∃ vs, oe.data = .fields vs) → G rt → ∃ ts, PSs (X.suite pins e) (b0 :: suite) ts ∧ ts { nx := fun _ _ => False, rt := rt } ((List.replicate N none).set i (some (.ref e))) H')
    (hst : X.stack = X.env :: X.outer := by rfl) (hfr : X.env.frame = some X.env.locals := by rfl) (hdb : (x == ("__debug__" : Str)) = false := by decide) :
    PS X (.Try body [.ExceptHandler (some (.Name x np)) (some n) (b0 :: suite) hpos] [] [] pos) (QW tb G) := by
  intro pins s σ H B I ⟨h1, h2⟩
  refine wpAny_Try_except ?_
  have mono : ∀ Z, qy (X.tried pins Z) W → wpAny (model X.prog X.w) X.A (execs body X.env) (fun f s₁ => match f with | .next => wpAny (model X.prog X.w) X.A (execs [] X.env) (SP X pins B) X.xe s₁ | f => SP X pins B f s₁) Z s := fun Z L => by
    refine wpAny_mono (hb pins Z L [] s σ H B (I.tried Z) h1) (fun f s1 q => ?_) fun _ _ z => z
    cases f with
    | next =>
      obtain ⟨σ', H', J, q⟩ := q
      exact wpAny_execs_nil ⟨σ', H', J.untried, q⟩
    | brk =>
      obtain ⟨σ', H', J, q⟩ := q
      exact ⟨σ', H', J.untried, q⟩
    | cont =>
      obtain ⟨σ', H', J, q⟩ := q
      exact ⟨σ', H', J.untried, q⟩
    | ret u =>
      obtain ⟨v, σ', H', J, r, q⟩ := q
      exact ⟨v, σ', H', J.untried, r, q⟩
  refine mono _ ?_
  rintro ev s' ⟨pins', σ', H', e, C, fp, rfl, I', F, hf, hw⟩
  have fr : X.A.frames = some (X.env :: X.outer) := I.ok.frames.trans (by rw [hst])
  have st : s'.heap.FunFrames X.base (X.env :: X.outer) := by
    have z := I'.stack
    rw [show (X.tried pins _).stack = X.env :: X.outer from hst] at z
    exact z
  refine Xp (base := X.base) (outer := X.outer) fr st hfr F fun h' T z1 z2 NN F' => ?_
  rw [← hst] at NN
  have fT : FpX X pins H' T := (I'.untried).fpX (Heap.get?_none_of_le z1) (I'.hok.fresh z1)
  have fe : FpX X pins H' e := by
    obtain ⟨k0, k1, k2, k3, k4, k5⟩ := hf e F.self
    exact ⟨k0, k1, k2, k3, k4, fun p hp => k5 p (List.mem_append_left _ hp)⟩
  have I2 : Inv X pins (List.replicate X.N.length none) H' { s' with heap := h' } := (I'.noted NN hf).untried.forget
  have I3 := I2.suite e rfl
  have hfp : ∀ b ∈ [e, T], FpX X pins H' b := fun b hb => by
    rcases List.mem_cons.mp hb with z | z
    · rw [z]
      exact fe
    · rw [List.mem_singleton.mp z]
      exact fT
  refine wpAny_handleBy_cons (codeAny_handlers_test (qt I3 hg hm ?_ hdb)) (by intro q; cases q)
  have LT : Looks (model X.prog X.w) h' (typeOf (.ref e)) (.ref C) := by
    obtain ⟨oe, _, he, hc, _⟩ := F'
    exact hc.1 ▸ (Looks.ld he).andThen .now
  refine (exm_one I3.kIn LT (hx C H' hw)).here ?_
  refine codeAny_handlers_suite_as (Ux (fs := frs X.stack) F' fun h5 N5 F5 => ?_)
  have I5 : Inv X pins (List.replicate X.N.length none) H' { s' with heap := h5 } := I2.noted N5 hfp
  obtain ⟨oe, vs, he, hc, hd, _⟩ := F5
  have I6 : Inv X (pins ++ [(e, oe)]) (List.replicate X.N.length none) H' { s' with heap := h5 } := I5.pins_of fun p hp => by
    rcases List.mem_append.mp hp with z | z
    · exact I5.pin p (List.mem_append_right _ z)
    · rw [List.mem_singleton.mp z]
      exact ⟨he, fe.1, fe.2.1, fe.2.2.1, fun v q => by rw [hd] at q; cases q⟩
  have I7 := I6.suite e rfl
  refine qT (X := X.suite (pins ++ [(e, oe)]) e) I7 hnd hi (.inl hl) (v := .ref e) rfl (fun s6 I8 => ?_) (.inr hl)
  obtain ⟨ts, ht, g⟩ := hs (pins ++ [(e, oe)]) e C oe H' _ hw fe.1 (by simp) hc ⟨vs, hd⟩ h2
  rw [← hN] at g
  refine wpAny_mono (ht [] s6 _ H' _ I8 g) (fun f s7 q => ?_) fun _ _ z => z.elim
  cases f with
  | next =>
    obtain ⟨_, _, _, q⟩ := q
    exact q.elim
  | brk =>
    obtain ⟨_, _, _, q⟩ := q
    exact q.elim
  | cont =>
    obtain ⟨_, _, _, q⟩ := q
    exact q.elim
  | ret u =>
    obtain ⟨v, σ7, H7, J, r, q⟩ := q
    have J2 := J.unsuite I.ok.hd rfl
    refine Uw J2 hl fun s8 J3 => ⟨v, _, H7, J3.pins_of fun p hp => J3.pin p ?_, r, q⟩
    exact List.mem_append_right _ (List.mem_append_left _ hp)
theorem yW {C : Addr} {oe : Obj} (XC : XClass X.K C) (hp : (e, oe) ∈ X.pn) (hc : oe.cls = .ref C ∧ oe.dict = none) (hd : ∃ vs, oe.data = .fields vs) :
    zJ X (.builtin "isinstance") (fun xs H Q => (∃ D b, xs = [.ref e, .ref D] ∧ kitOne X.K (.ref C) (.ref D) = some b ∧ Q (.bl b) H) ∨ ∃ n b, xs = [.ref e, .ty n] ∧ kitOne X.K (.ref C) (.type n) = some b ∧ Q (.bl b) H) := by
  intro pins s σ H xs us Q I r h
  have at0 : InstAt s.heap e oe C none := by
    obtain ⟨vs, hd⟩ := hd
    refine ⟨(I.pin _ (List.mem_append_left _ hp)).1, hc.1, ?_, ?_⟩
    · unfold notCls
      rw [hd]
    · rw [hc.2]
      trivial
  rcases h with ⟨D, b, rfl, k, q⟩ | ⟨n, b, rfl, k, q⟩
  · obtain ⟨u, c, rfl, ru, rc⟩ := r.two
    cases ru
    cases rc
    exact kia_one (ZR (oe := oe) XC) I.kIn at0 k (fun z => nomatch z) fun tk => ⟨.bl b, H, I.tok tk, rfl, q⟩
  · obtain ⟨u, c, rfl, ru, rc⟩ := r.two
    cases ru
    cases rc
    exact kia_one (ZR (oe := oe) XC) I.kIn at0 k (fun z => nomatch z) fun tk => ⟨.bl b, H, I.tok tk, rfl, q⟩
end
structure CalX (P : Program) (w : World) (K : PySem.W.Frag) (mg : Str → Option Value) (base : Heap) (k : Nat) (x : Str) (dvs : List V) (sp : Sp) : Prop where
  ex : ∃ (f : Addr) (fd : FuncData) (ps : List Str) (ds : List Value), FnOk P w K mg base (CX1 P w) k f fd ps sp ∧ mg x = some (.ref f) ∧ keepIn K (.ref f) = true ∧ Binds K fd ps ds ∧ Vals dvs ds
theorem jw {X : Cx} : ug (CX1 X.prog X.w) X E0 := by
  rintro pins σ H s ev s' I ⟨e, C, fp, H', rfl, F, hf, os, bare, un, hok, hw⟩
  exact hw.elim
theorem xG {X : Cx} {k : Nat} {sp : Sp} {dvs : List V} {W : XK} {x : Str} {p pos : Pos} {e : Expr} {es : List Expr} {t : TA} (c : CalX X.prog X.w X.K X.mg X.base k x dvs sp) (ps : ug (CX1 X.prog X.w) X W) (hr : Room k X.A) (hg : Gl X x) (ha : PA X (e :: es) t)
    (hdb : (x == ("__debug__" : Str)) = false := by decide) (hse : starEach (e :: es) X.env = (false, eval e X.env) :: starEach es X.env := by rfl) (hpl : (backTo pos (starEach es X.env)).any (·.1) = false := by rfl) :
    PE X (.Call (.Name x p) (e :: es) [] pos) (xv sp dvs W t) := by
  obtain ⟨f, fd, qs, ds, F, hm, hk, hb, hd⟩ := c.ex
  exact Xh F hr hg hm hk hb hd ps ha hdb hse hpl
end L2
namespace L2
open PySem PySem.Spec PyProof.Rows
noncomputable def zcW (X : Cx) (N : List Str) (scope : Scope) (cl : List (Str × Addr)) (y : Str) (C : Addr) (s : Shared) (H : Hp) (fp : List Addr) : Cx :=
  { zN X N scope cl C s H fp with env := compEnvC scope ((y, C + 1) :: cl) C X.env, fn := fun x => x == y }
structure LcOkC (X : Cx) (N : List Str) (n : Nat) (js : List Nat) (scope : Scope) (cl : List (Str × Addr)) (y : Str) : Prop where
  clos : closureFor scope X.env = pure cl
  one : ∀ k, cellsFrom k scope.names cl = (y, k) :: cl
  onep : ∀ h : Heap, pushCells h scope.names = h.push { cls := .type "cell", data := .cell none }
  kind : scope.kind = .function
  names : ∀ y ∈ scope.names, y.2 = .local → scope.names.lookup y.1 = some .local
  cells : ∀ x c, cl.lookup x = some c → X.env.cells.lookup x = some c
  has : ∀ x, ((relabel scope X.env).names.lookup x = some .cell ∨ (relabel scope X.env).names.lookup x = some .free) → x = y ∨ ∃ c, cl.lookup x = some c
  len : n + js.length = N.length
  free : ∀ (i : Nat) (x : Str), N[n + i]? = some x → ∃ j c, js[i]? = some j ∧ X.N[j]? = some x ∧ (X.env.scope.names.lookup x = some .cell ∨ X.env.scope.names.lookup x = some .free) ∧
    ((relabel scope X.env).names.lookup x = some .cell ∨ (relabel scope X.env).names.lookup x = some .free) ∧ cl.lookup x = some c ∧ x ≠ y
theorem qW {cl : List (Str × Addr)} {y x : Str} {k c : Addr} (h : List.lookup x ((y, k) :: cl) = some c) : (x = y ∧ c = k) ∨ cl.lookup x = some c := by
  rw [List.lookup_cons] at h
  cases q : x == y with
  | true =>
    rw [q] at h
    exact .inl ⟨beq_iff_eq.mp q, (Option.some.inj h).symm⟩
  | false =>
    rw [q] at h
    exact .inr h
theorem QX {cl : List (Str × Addr)} {y x : Str} {k : Addr} (h : x ≠ y) : List.lookup x ((y, k) :: cl) = cl.lookup x := by
  rw [List.lookup_cons, beq_eq_false_iff_ne.mpr h]
theorem qX {cl : List (Str × Addr)} {y : Str} {k : Addr} : List.lookup y ((y, k) :: cl) = some k := by
  rw [List.lookup_cons, beq_self_eq_true]
section
variable {X : Cx} {pins : List (Addr × Obj)} {σ : St} {H : Hp} {s : Shared} {N : List Str} {n : Nat} {js : List Nat} {scope : Scope} {cl : List (Str × Addr)} {y : Str}
theorem LcOkC.far (L : LcOkC X N n js scope cl y) {fp : List Addr} {C b c : Addr} {x : Str} {z : Nat} (hf : ∀ b ∈ fp, FpOk X pins H b) (hlt : b < z) (hb : b ∈ fp) (hC : z ≤ C) (e : List.lookup x ((y, C + 1) :: cl) = some c) : c ≠ b := by
  rcases qW e with ⟨_, q⟩ | q
  · rw [q]
    exact Nat.ne_of_gt (Nat.lt_of_lt_of_le hlt (Nat.le_succ_of_le hC))
  · exact (hf b hb).2.2.2.2.1 x c (L.cells x c q)
theorem LcOkC.low (L : LcOkC X N n js scope cl y) (I : Inv X pins σ H s) {x : Str} {c : Addr} (e : cl.lookup x = some c) : c < s.heap.objs.size := by
  obtain ⟨v, o, ho, _⟩ := I.cell x c (L.cells x c e)
  exact Heap.lt_size ho
theorem LcOkC.ok (L : LcOkC X N n js scope cl y) (I : Inv X pins σ H s) {fp : List Addr} (hf : ∀ b ∈ fp, FpOk X pins H b) (hlt : ∀ b ∈ fp, b < s.heap.objs.size) {C : Addr} (hC : s.heap.objs.size ≤ C) : (zcW X N scope cl y C s H fp).Ok where
  mod := I.ok.mod
  kind := L.kind
  glob := I.ok.glob
  blt := I.ok.blt
  above := hC
  inj := fun x x' c h1 h2 => by
    rcases qW h1 with ⟨e1, q1⟩ | q1 <;> rcases qW h2 with ⟨e2, q2⟩ | q2
    · rw [e1, e2]
    · exact absurd (Nat.lt_of_lt_of_le (L.low I q2) hC) (by rw [q1]; exact Nat.not_lt.mpr (Nat.le_succ C))
    · exact absurd (Nat.lt_of_lt_of_le (L.low I q1) hC) (by rw [q2]; exact Nat.not_lt.mpr (Nat.le_succ C))
    · exact I.ok.inj x x' c (L.cells x c q1) (L.cells x' c q2)
  has := fun x hx => by
    rcases L.has x hx with e | ⟨c, e⟩
    · rw [e]
      exact ⟨_, qX⟩
    · by_cases q : x = y
      · rw [q]
        exact ⟨_, qX⟩
      · exact ⟨c, (QX q).trans e⟩
  cab := fun x c hx e => by
    have hx : x = y := beq_iff_eq.mp hx
    rw [hx] at e
    cases (qX.symm.trans e)
    exact Nat.le_succ_of_le hC
  hd := I.ok.hd
  frames := I.ok.frames
  stk := .inl rfl
  exf := fun b hb => ⟨Nat.ne_of_lt (Nat.lt_of_lt_of_le (hlt b hb) hC), fun x c e => L.far hf (hlt b hb) hb hC e⟩
  bs := I.bs
  bsz := Nat.le_trans I.ok.bsz I.sz
  noex := fun b o e hb => by
    rcases (hf b hb).2.2.2.1 with z | z
    · exact I.ok.noex b o e z
    · exact absurd (Nat.lt_of_lt_of_le (Heap.lt_size (I.ok.bs b o e).1) z) (Nat.lt_irrefl _)
  exfs := fun b hb hz => by
    rcases List.mem_cons.mp (I.stkSub b hz) with z | z
    · exact (hf b hb).2.1 z
    · exact (hf b hb).2.2.1 z
  funs := I.stack
  frf := I.stkFree
end
end L2
namespace L2
open PySem PySem.Spec PyProof.Rows
section
variable {κ : Type} [DecidableEq κ]
noncomputable def vf (kvs : List (κ × V)) (k : κ) : Option V := (kvs.find? fun kv => decide (kv.1 = k)).map (·.2)
noncomputable def uZ (kvs : List (κ × V)) (k : κ) (v : V) : List (κ × V) :=
  if (kvs.any fun kv => decide (kv.1 = k)) = true then kvs.map (fun kv => if kv.1 = k then (kv.1, v) else kv) else kvs ++ [(k, v)]
noncomputable def J5 (kvs : List (κ × V)) (k : κ) : List (κ × V) := kvs.filter fun kv => decide (kv.1 ≠ k)
theorem qY {p : κ × V} {r : List (κ × V)} {k : κ} (e : p.1 = k) : vf (p :: r) k = some p.2 := by simp [vf, List.find?_cons, e]
theorem qZ {p : κ × V} {r : List (κ × V)} {k : κ} (e : ¬ p.1 = k) : vf (p :: r) k = vf r k := by simp [vf, List.find?_cons, e]
theorem ZT (k : κ) : ∀ kvs : List (κ × V), (kvs.any fun kv => decide (kv.1 = k)) = (vf kvs k).isSome
  | [] => rfl
  | p :: r => by
    rw [List.any_cons]
    by_cases e : p.1 = k
    · simp only [qY e, decide_eq_true e, Bool.true_or, Option.isSome_some]
    · rw [qZ e, decide_eq_false e, Bool.false_or]; exact ZT k r
theorem uv.isSome_eq {o : Option V} {u : Option Value} (r : uv o u) : o.isSome = u.isSome := by
  cases o with
  | none => cases u with
    | none => rfl
    | some _ => exact (show False from r).elim
  | some _ => cases u with
    | none => exact (show False from r).elim
    | some _ => rfl
theorem uv.getD {o : Option V} {u : Option Value} {d : V} {d' : Value} (r : uv o u) (rd : RelV d d') : RelV (o.getD d) (u.getD d') := by
  cases o with
  | none => cases u with
    | none => exact rd
    | some _ => exact (show False from r).elim
  | some _ => cases u with
    | none => exact (show False from r).elim
    | some _ => exact r
theorem KV.val {kvs : List (κ × V)} {vs : List (κ × Value)} (r : KV kvs vs) (k : κ) : uv (vf kvs k) (valueAt vs k) := by
  unfold KV at r
  induction r with
  | nil => exact True.intro
  | @cons p q ps qs h t ih =>
    obtain ⟨h1, h2⟩ := h
    by_cases e : p.1 = k
    · have e' : q.1 = k := h1.symm.trans e
      have b : valueAt (q :: qs) k = some q.2 := by simp [valueAt, List.find?_cons, e']
      rw [qY e, b]; exact h2
    · have e' : ¬ q.1 = k := fun z => e (h1.trans z)
      have b : valueAt (q :: qs) k = valueAt qs k := by simp [valueAt, List.find?_cons, e']
      rw [qZ e, b]; exact ih
theorem KV.any {kvs : List (κ × V)} {vs : List (κ × Value)} (r : KV kvs vs) (k : κ) : (kvs.any fun kv => decide (kv.1 = k)) = vs.any fun kv => decide (kv.1 = k) := by
  unfold KV at r
  induction r with
  | nil => rfl
  | cons h t ih => rw [List.any_cons, List.any_cons, ih, h.1]
theorem KV.repl {kvs : List (κ × V)} {vs : List (κ × Value)} (r : KV kvs vs) (k : κ) {y : V} {u : Value} (ry : RelV y u) :
    KV (kvs.map fun kv => if kv.1 = k then (kv.1, y) else kv) (vs.map fun kv => if kv.1 = k then (kv.1, u) else kv) := by
  unfold KV at r ⊢
  induction r with
  | nil => exact .nil
  | @cons p q ps qs h t ih =>
    rw [List.map_cons, List.map_cons]
    refine .cons ?_ ih
    obtain ⟨h1, h2⟩ := h
    by_cases e : p.1 = k
    · rw [if_pos e, if_pos (h1.symm.trans e)]; exact ⟨h1, ry⟩
    · rw [if_neg e, if_neg (fun z => e (h1.trans z))]; exact ⟨h1, h2⟩
theorem KV.put {kvs : List (κ × V)} {vs : List (κ × Value)} (r : KV kvs vs) (k : κ) {y : V} {u : Value} (ry : RelV y u) : KV (uZ kvs k y) (stored vs k u) := by
  unfold uZ stored
  rw [r.any k]
  by_cases e : (vs.any fun kv => decide (kv.1 = k)) = true
  · rw [if_pos e, if_pos e]; exact r.repl k ry
  · rw [if_neg e, if_neg e]; exact Paired.snoc r ⟨rfl, ry⟩
theorem KV.drop {kvs : List (κ × V)} {vs : List (κ × Value)} (r : KV kvs vs) (k : κ) : KV (J5 kvs k) (without vs k) := by
  unfold KV at r ⊢
  unfold J5 without
  induction r with
  | nil => exact .nil
  | @cons p q ps qs h t ih =>
    obtain ⟨h1, h2⟩ := h
    rw [List.filter_cons, List.filter_cons]
    by_cases e : p.1 = k
    · have a : ¬ decide (p.1 ≠ k) = true := by simp [e]
      have b : ¬ decide (q.1 ≠ k) = true := by simp [h1.symm.trans e]
      rw [if_neg a, if_neg b]; exact ih
    · have e' : ¬ q.1 = k := fun z => e (h1.trans z)
      have a : decide (p.1 ≠ k) = true := by simp [e]
      have b : decide (q.1 ≠ k) = true := by simp [e']
      rw [if_pos a, if_pos b]; exact .cons ⟨h1, h2⟩ ih
theorem KV.keys {kvs : List (κ × V)} {vs : List (κ × Value)} (r : KV kvs vs) : kvs.map (·.1) = vs.map (·.1) := by
  unfold KV at r
  induction r with
  | nil => rfl
  | cons h t ih => rw [List.map_cons, List.map_cons, ih, h.1]
theorem KV.length {kvs : List (κ × V)} {vs : List (κ × Value)} (r : KV kvs vs) : kvs.length = vs.length := Paired.length r
end
noncomputable abbrev KT (H : Hp) : List (List Key × V) → List (List Key × Addr × Value) → Prop := Paired fun p q => p.1 = q.1 ∧ H q.2.1 = some (.tup (p.1.map kV)) ∧ RelV p.2 q.2.2
theorem KT.val {H : Hp} {kvs : List (List Key × V)} {xs : List (List Key × Addr × Value)} (r : KT H kvs xs) (k : List Key) : uv (vf kvs k) ((atKey xs k).map (·.2)) := by
  induction r with
  | nil => exact True.intro
  | @cons p q ps qs h t ih =>
    obtain ⟨h1, _, h2⟩ := h
    by_cases e : p.1 = k
    · have e' : q.1 = k := h1.symm.trans e
      have b : atKey (q :: qs) k = some q.2 := by simp [atKey, List.find?_cons, e']
      rw [qY e, b]; exact h2
    · have e' : ¬ q.1 = k := fun z => e (h1.trans z)
      have b : atKey (q :: qs) k = atKey qs k := by simp [atKey, List.find?_cons, e']
      rw [qZ e, b]; exact ih
theorem KT.repl {H : Hp} {kvs : List (List Key × V)} {xs : List (List Key × Addr × Value)} (r : KT H kvs xs) (k : List Key) {y : V} {u : Value} (ry : RelV y u) :
    KT H (kvs.map fun kv => if kv.1 = k then (kv.1, y) else kv) (xs.map (putAt k u)) := by
  induction r with
  | nil => exact .nil
  | @cons p q ps qs h t ih =>
    rw [List.map_cons, List.map_cons]
    refine .cons ?_ ih
    obtain ⟨h1, h2, h3⟩ := h
    unfold putAt
    by_cases e : p.1 = k
    · rw [if_pos e, if_pos (h1.symm.trans e)]; exact ⟨h1, h2, ry⟩
    · rw [if_neg e, if_neg (fun z => e (h1.trans z))]; exact ⟨h1, h2, h3⟩
theorem KT.put {H : Hp} {kvs : List (List Key × V)} {xs : List (List Key × Addr × Value)} (r : KT H kvs xs) (k : List Key) {b : Addr} {y : V} {u : Value} (hb : H b = some (.tup (k.map kV))) (ry : RelV y u) :
    KT H (uZ kvs k y) (storedH xs k b u) := by
  have e : (kvs.any fun kv => decide (kv.1 = k)) = (atKey xs k).isSome := by
    rw [ZT, (r.val k).isSome_eq, Option.isSome_map]
  unfold uZ storedH
  rw [e]
  by_cases q : (atKey xs k).isSome = true
  · rw [if_pos q, if_pos q]; exact r.repl k ry
  · rw [if_neg q, if_neg q]; exact Paired.snoc r ⟨rfl, hb, ry⟩
theorem KT.keeps {H H' : Hp} {kvs : List (List Key × V)} {xs : List (List Key × Addr × Value)} (r : KT H kvs xs) (ht : ∀ b ys, H b = some (.tup ys) → H' b = some (.tup ys)) : KT H' kvs xs :=
  Paired.mapP r fun _ _ z => ⟨z.1, ht _ _ z.2.1, z.2.2⟩
section
variable {P : Program} {w : World} {H : Hp} {h : Heap} {a : Addr}
end
noncomputable def X7 (H : Hp) (a : Addr) (y : V) (r : Option V) : Prop :=
  (∃ kvs k, Rd H a (.dK kvs) ∧ y = kV k ∧ r = vf kvs k) ∨ ∃ kvs k b, Rd H a (.dT kvs) ∧ y = .ref b ∧ H b = some (.tup (k.map kV)) ∧ r = vf kvs k
noncomputable def X8 (H : Hp) (a : Addr) (y v : V) (H' : Hp) : Prop :=
  (∃ kvs k, H a = some (.dK kvs) ∧ y = kV k ∧ kvs.length < sizeLine ∧ H' = upd H a (.dK (uZ kvs k v))) ∨
  ∃ kvs k b, H a = some (.dT kvs) ∧ y = .ref b ∧ H b = some (.tup (k.map kV)) ∧ kvs.length < sizeLine ∧ H' = upd H a (.dT (uZ kvs k v))
theorem X7.k {H : Hp} {a : Addr} {kvs : List (Key × V)} {k : Key} (e : H a = some (.dK kvs)) : X7 H a (kV k) (vf kvs k) := .inl ⟨kvs, k, .inl e, rfl, rfl⟩
theorem X7.t {H : Hp} {a b : Addr} {kvs : List (List Key × V)} {k : List Key} (e : H a = some (.dT kvs)) (eb : H b = some (.tup (k.map kV))) : X7 H a (.ref b) (vf kvs k) := .inr ⟨kvs, k, b, .inl e, rfl, eb, rfl⟩
theorem X8.k {H : Hp} {a : Addr} {kvs : List (Key × V)} {k : Key} {v : V} (e : H a = some (.dK kvs)) (hl : kvs.length < sizeLine) : X8 H a (kV k) v (upd H a (.dK (uZ kvs k v))) := .inl ⟨kvs, k, e, rfl, hl, rfl⟩
theorem X8.t {H : Hp} {a b : Addr} {kvs : List (List Key × V)} {k : List Key} {v : V} (e : H a = some (.dT kvs)) (eb : H b = some (.tup (k.map kV))) (hl : kvs.length < sizeLine) :
    X8 H a (.ref b) v (upd H a (.dT (uZ kvs k v))) := .inr ⟨kvs, k, b, e, rfl, eb, hl, rfl⟩
section
variable {X : Cx} {pins : List (Addr × Obj)} {σ : St} {H : Hp} {s : Shared} {a : Addr} {y v : V} {u r : Value} {o : Option V} {A : Around} {E : Value → Shared → Prop}
theorem Inv.big (I : Inv X pins σ H s) : sysModules < s.heap.objs.size := by
  have h : mainGlobals < s.heap.objs.size := (I.mod.glob.keeps I.bk).lt
  exact Nat.lt_trans (by decide) h
end
section
variable {X : Cx} {pins : List (Addr × Obj)} {σ : St} {H : Hp} {s : Shared} {a : Addr} {kvs : List (Key × V)} {k : Key} {u : Value} {A : Around} {E : Value → Shared → Prop}
end
section
variable {X : Cx} {o i e value : Expr} {pos pos' tpos : Pos} {td ty tv : TE}
end
theorem QY {P : Program} {w : World} {H : Hp} (h : Heap) (hb : sysModules < h.objs.size) : zR P w H (h.push { cls := .type "dict", data := .dict #[] }) h.objs.size (.dK []) :=
  ⟨Nat.zero_le _, beq_eq_false_iff_ne.mpr (Ne.symm (Nat.ne_of_lt hb)), [], .nil, Heap.DictOf.new h⟩
noncomputable def Uy : TE := fun _ H Q => ∀ p, H p = none → Q (.ref p) (upd H p (.dK []))
section
variable {X : Cx} {pos : Pos}
theorem QZ : PE X (.Dict [] [] pos) Uy := fun pins s σ H Q I h =>
  wpAny_Dict_empty ⟨.ref s.heap.objs.size, _, I.laid (a := s.heap.objs.size) (o := .dK []) (t' := s.toks) (fun _ _ q => Heap.get?_push_of_some _ q) (Nat.le_refl _) (QY s.heap I.big), rfl, h _ (I.hok.fresh (Nat.le_refl _))⟩
end
section
variable {X : Cx} {pins : List (Addr × Obj)} {σ : St} {H : Hp} {s : Shared} {a : Addr} {y d : V} {u r : Value} {o : Option V} {A : Around} {E : Value → Shared → Prop}
end
section
variable {X : Cx} {o e f : Expr} {apos cpos : Pos} {td ty tx : TE}
end
section
variable {X : Cx} {pins : List (Addr × Obj)} {σ : St} {H : Hp} {s : Shared} {a : Addr} {kvs : List (Key × V)} {A : Around} {E : Value → Shared → Prop}
end
section
variable {X : Cx} {pins : List (Addr × Obj)} {σ : St} {H : Hp} {s : Shared} {a : Addr} {y : V} {u : Value} {A : Around} {E : Value → Shared → Prop}
end
end L2
namespace PySem
section
variable {prog : Program} {w : World} {A : Around} {E : Value → Shared → Prop} {s : Shared}
end
section
variable {prog : Program} {w : World} {A : Around} {K : Type} [DecidableEq K] {knd : KeyKind prog w K}
end
end PySem
namespace PySem
open PySem PySem.W PySem.Calls PyProof.Rows
section
variable {prog : Program} {w : World} {A : Around} {E : Value → Shared → Prop} {s : Shared} {T : String} {r d : Addr} {n : Nat} {P : Nat → Value → Prop} {OK : Heap → Prop}
end
end PySem
namespace L2
open PySem PySem.Spec PyProof.Rows
theorem Inv.turnedL {X : Cx} {pins : List (Addr × Obj)} {σ : St} {H : Hp} {s : Shared} {h' : Heap} {t' : Nat} {fp : List Addr} (I : Inv X pins σ H s) (k : ∀ b o, b ∉ fp → s.heap.get? b = some o → h'.get? b = some o)
    (hf : ∀ b ∈ fp, FpOk X pins H b) : Inv X pins σ H { s with heap := h', toks := t' } := by
  have nit : ∀ b u, H b = some u → b ∉ fp := fun b u e z => by rw [(hf b z).1] at e; cases e
  refine I.step (g' := s.gens) (d' := s.drawn) (ch := fp) (fun b hb => ?_) (fun b o _ _ hc e _ => k b o hc e) (fun b o _ _ hc e _ => ⟨o.slots, k b o hc e⟩) (fun _ _ _ _ n => n)
    (fun b o hc e => ⟨o, k b o hc e⟩) (fun _ _ e => e) (fun _ _ _ e => e) (fun b ps e => ⟨#[], by rw [e]; simp⟩) (fun m hm => ?_) (fun b u e => ?_) I.bare
  · obtain ⟨f0, f1, f2, f3, f4, f5⟩ := hf b hb
    exact ⟨f3, f1, f4, f5⟩
  · obtain ⟨o, es, ep, ho, r⟩ := hm
    exact ⟨o, es, ep, k _ o (fun z => (hf _ z).2.1 rfl) ho, r⟩
  · refine (I.hok b u e).stay (fun c v hc q => k c v ?_ q) (fun _ q => q) fun _ _ q => q
    rcases hc with z | z
    · rw [z]; exact nit b u e
    · exact nit c _ z
noncomputable def Ite (K : PySem.W.Frag) (a : Addr) : It :=
  ⟨fun i H => ∃ xs x, SqL K H a xs ∧ xs[i]? = some x, fun i H x H' => ∃ t y, x = .ref t ∧ H t = none ∧ H' = upd H t (.tup [.int i, y]) ∧ ∀ xs, SqL K H a xs → xs[i]? = some y, fun i H => ∃ xs, SqL K H a xs ∧ xs.length ≤ i⟩
theorem Uz {P : Program} {w : World} {K : PySem.W.Frag} {es : List Expr} {k : Nat} {pos : Pos} (a e it : Addr) (hne : e ≠ it) :
    Turn P w K (.Tuple es k pos) (Ite K a) [e, it] e (fun i h => (∃ old, IsEnum h e it (i : Nat) old) ∧ h.IsListIter it a i) where
  mem := by simp
  obj := fun i h st b hb => by
    obtain ⟨⟨old, he⟩, o, e1, c, d⟩ := st
    have hb' : b = e ∨ b = it := by simpa using hb
    rcases hb' with rfl | rfl
    · exact ⟨_, he, fun v z => by
        have z' : Data.fields _ = Data.cell v := z
        cases z'⟩
    · exact ⟨o, e1, fun v z => by rw [d] at z; cases z⟩
  keep := fun i h h' st k => ⟨st.1.elim fun old he => ⟨old, k e (by simp) _ he⟩, st.2.at fun o q => k it (by simp) o q⟩
  item := by
    intro X hP hw hK hc i pins s σ H E I hf st hg
    subst hP hw hK
    obtain ⟨⟨old, he⟩, hit⟩ := st
    obtain ⟨xs, x, hq, hx⟩ := hg
    obtain ⟨its, rv, p, hz⟩ := I.list hq
    obtain ⟨u, hu, ru⟩ := rv.get hx
    refine wpAny_pyNext_enum_item he hit p.isList (x := u) (by simpa using hu) hne fun h' he' hit' ht hsz kk => ?_
    refine ⟨_, rfl, wpAny_letOwnedTupleGo_enum he' fun h2 he2 sb => ?_⟩
    have hn := I.hok.fresh (Nat.le_refl s.heap.objs.size)
    have I1 : Inv X pins σ (upd H s.heap.objs.size (.tup [.int i, x])) { s with heap := s.heap.push { cls := .type "tuple", data := .seq [Value.int i s.toks, u].toArray }, toks := s.toks + 1 } :=
      I.laid (fun b o e => Heap.get?_push_of_some _ e) (Nat.le_refl _) ⟨by show 2 ≤ sizeLine; decide, [Value.int i s.toks, u], .cons ⟨_, rfl⟩ (.cons ru .nil), IsTup.new s.heap _⟩
    have lt : ∀ b ∈ [e, it], b ≠ s.heap.objs.size := fun b hb => by
      have hb' : b = e ∨ b = it := by simpa using hb
      rcases hb' with rfl | rfl
      · exact Nat.ne_of_lt (Heap.lt_size he)
      · obtain ⟨o, e1, _⟩ := hit
        exact Nat.ne_of_lt (Heap.lt_size e1)
    have nt : ∀ b ∈ [e, it], upd H s.heap.objs.size (.tup [.int i, x]) b = none := fun b hb => by rw [zd (lt b hb)]; exact (hf b hb).1
    have I2 := I1.turnedL (h' := h2) (t' := s.toks + 1) (fp := [e, it]) (fun b o hb q => by
      have h1 : b ≠ e := fun z => hb (by simp [z])
      have h2' : b ≠ it := fun z => hb (by simp [z])
      by_cases hbz : b = s.heap.objs.size
      · subst hbz
        have q' : (s.heap.push { cls := .type "tuple", data := .seq #[Value.int i s.toks, u] }).get? s.heap.objs.size = some o := q
        rw [Heap.get?_push_size s.heap (o := { cls := .type "tuple", data := .seq #[Value.int i s.toks, u] }) rfl] at q'
        exact (sb.2 _ h1).trans (ht.trans q')
      · have q' : (s.heap.push { cls := .type "tuple", data := .seq #[Value.int i s.toks, u] }).get? b = some o := q
        rw [Heap.get?_push_ne _ _ _ hbz] at q'
        exact (sb.2 b h1).trans (kk b o h1 h2' q')) fun b hb => ⟨nt b hb, (hf b hb).2⟩
    have ei : ((i : Int) + 1) = (((i + 1 : Nat)) : Int) := by omega
    refine ⟨.ref s.heap.objs.size, _, I2, rfl, ⟨_, x, rfl, hn, rfl, fun ys hy => by rw [I.list_inj hy hq]; exact hx⟩, ⟨⟨_, ei ▸ he2⟩, hit'.at fun o q => (sb.2 it (Ne.symm hne)).trans q⟩, nt⟩
  done := by
    intro X hP hw hK hc i pins s σ H E I hf st hg
    subst hP hw hK
    obtain ⟨⟨old, he⟩, hit⟩ := st
    obtain ⟨xs, hq, hx⟩ := hg
    obtain ⟨its, rv, p, hz⟩ := I.list hq
    have hl := rv.length
    obtain ⟨f0, f1, f2, f3, f4, f5⟩ := hf it (by simp)
    exact wpAny_pyNext_enum_end (I.ok.hd hc) he hit p.isList (by simp; omega) fun h' eb => ⟨rfl, I.turned (t' := s.toks) (fun b o hb e => eb b o hb e) f0 f1 f3 f4 f5⟩
  self := fun _ _ _ _ _ st h => st.1.elim fun old he => wpAny_pyIter_enum he h
noncomputable def X9 (K : PySem.W.Frag) (ta : TA) : TI := fun σ H R => ta σ H fun vs H1 => ∃ a, vs = [.ref a] ∧ (∃ xs, SqL K H1 a xs) ∧ R (Ite K a) H1
section
variable {X : Cx}
theorem K5 {es : List Expr} {k : Nat} {tp : Pos} {l : Expr} {ta : TA} {p pos : Pos} (hg : Gl X "enumerate") (hm : X.mg "enumerate" = none) (ha : PA X [l] ta) (hs : starEach [l] X.env = [(false, eval l X.env)] := by rfl) :
    PI X (.Tuple es k tp) (.Call (.Name "enumerate" p) [l] [] pos) (X9 X.K ta) := by
  intro pins s σ H R I h
  refine Call_ (x8 I hg hm boot_enumerate (PyProof.Rows.callWith_type1 (thn (ha pos pins s σ H _ I h) fun us s1 ⟨vs, H1, I1, r1, q1⟩ => ?_) hs rfl))
  obtain ⟨a, e, ⟨xs, hq⟩, q⟩ := q1
  subst e
  cases r1 with
  | cons r rr =>
    cases rr
    cases r
    obtain ⟨its, rv, p, hz⟩ := I1.list hq
    refine call_enumerate_list p.isList fun h' hE hI hsz hk => wpAny_pyIter_enum hE ?_
    refine ⟨s1.heap.objs.size + 1, [s1.heap.objs.size + 1, s1.heap.objs.size], _, _, H1, rfl, I1.kept (t' := s1.toks) hk, Uz a _ _ (Nat.succ_ne_self _), ⟨⟨_, hE⟩, hI⟩, fun b hb => ?_, q⟩
    have hb' : b = s1.heap.objs.size + 1 ∨ b = s1.heap.objs.size := by simpa using hb
    rcases hb' with rfl | rfl
    · exact I1.fpOk (Nat.le_succ _) (I1.hok.fresh (Nat.le_succ _))
    · exact I1.fpOk (Nat.le_refl _) (I1.hok.fresh (Nat.le_refl _))
end
noncomputable def J6 (K : PySem.W.Frag) (a : Addr) (g : TG) (tb : TS) (D : Ends) (σ : St) (H : Hp) : Prop := ∃ W : Nat → Nat → St → Hp → Prop, (∃ m, W 0 m σ H) ∧ ∀ i m σ H, W i m σ H →
  ((Ite K a).stop i H ∧ D.nx σ H) ∨ ((Ite K a).go i H ∧ ∃ N : St → Hp → Prop, (∀ σ' H', N σ' H' → ∃ m', m' < m ∧ W (i + 1) m' σ' H') ∧ ∀ x H', (Ite K a).yld i H x H' → g x σ H' fun σ2 H2 => tb { D with nx := N, ct := N, bk := D.nx } σ2 H2)
theorem J6.run {K : PySem.W.Frag} {a : Addr} {xs : List V} {g : TG} {tb : TS} {D : Ends} {σ : St} {H : Hp} (Pv : Nat → St → Hp → Prop) (h0 : Pv 0 σ H) (hl : ∀ i σ H, i ≤ xs.length → Pv i σ H → SqL K H a xs)
    (hs : ∀ i x σ H t, xs[i]? = some x → Pv i σ H → H t = none → ∀ R : St → Hp → Prop, (∀ σ' H', Pv (i + 1) σ' H' → R σ' H') → g (.ref t) σ (upd H t (.tup [.int i, x])) fun σ2 H2 => tb { D with nx := R, ct := R, bk := D.nx } σ2 H2) (hd : ∀ σ H, Pv xs.length σ H → D.nx σ H) :
    J6 K a g tb D σ H := by
  refine ⟨fun i m σ H => m = xs.length - i ∧ i ≤ xs.length ∧ Pv i σ H, ⟨xs.length, by simp, Nat.zero_le _, h0⟩, ?_⟩
  rintro i m σ H ⟨rfl, hi, p⟩
  have q := hl i σ H hi p
  by_cases hlt : i < xs.length
  · refine .inr ⟨⟨xs, xs[i], q, by simp [hlt]⟩, Pv (i + 1), fun σ' H' p' => ⟨xs.length - (i + 1), by omega, rfl, hlt, p'⟩, ?_⟩
    rintro _ _ ⟨t, y, rfl, ht, rfl, hy⟩
    exact hs i y σ H t (hy xs q) p ht _ fun _ _ z => z
  · have e : i = xs.length := by omega
    subst e
    exact .inl ⟨⟨xs, q, Nat.le_refl _⟩, hd σ H p⟩
end L2
namespace L2
open PySem PySem.Spec PyProof.Rows
section
variable {X : Cx} {tg : Expr}
noncomputable def R3 (i j c : Int) (n : Nat) : Prop := c ≠ 0 ∧ Builtin.Range.small i j c = true ∧ Builtin.Range.rangeSize i j c = n ∧ Builtin.divisionGoesByPylong (j - i) c = false
end
section
variable {X : Cx}
noncomputable def xZ (K : PySem.W.Frag) (H : Hp) : List V → List (Key × V) → Prop := Paired fun y kv => ∃ t, y = .ref t ∧ SqT K H t [kV kv.1, kv.2]
theorem xZ.get {K : PySem.W.Frag} {H : Hp} : ∀ {ys : List V} {kvs : List (Key × V)} {j : Nat} {kv : Key × V}, xZ K H ys kvs → kvs[j]? = some kv → ∃ t, ys[j]? = some (.ref t) ∧ SqT K H t [kV kv.1, kv.2]
  | _, _, _, _, .nil, e => by simp at e
  | _, _, 0, _, .cons r _, e => by
    simp at e
    subst e
    obtain ⟨t, rfl, h⟩ := r
    exact ⟨t, rfl, h⟩
  | _, _, j + 1, kv, .cons _ q, e => by
    obtain ⟨t, h1, h2⟩ := xZ.get (j := j) (kv := kv) q (by simpa using e)
    exact ⟨t, by simpa using h1, h2⟩
theorem xZ.snoc {K : PySem.W.Frag} {H : Hp} {y : V} {kv : Key × V} (hy : ∃ t, y = .ref t ∧ SqT K H t [kV kv.1, kv.2]) : ∀ {ys : List V} {kvs : List (Key × V)}, xZ K H ys kvs → xZ K H (ys ++ [y]) (kvs ++ [kv])
  | _, _, .nil => .cons hy .nil
  | _, _, .cons r q => .cons r (xZ.snoc hy q)
theorem xZ.keep {K : PySem.W.Frag} {H H' : Hp} {ys : List V} {kvs : List (Key × V)} (h : xZ K H ys kvs) (k : ∀ b xs, SqT K H b xs → SqT K H' b xs) : xZ K H' ys kvs :=
  Paired.imp' (fun y kv ⟨t, e, q⟩ => ⟨t, e, k t _ q⟩) h
end
end L2
namespace L2
open PySem PySem.Spec PyProof.Rows
section
variable {X : Cx} {pos : Pos}
end
section
variable {X : Cx} {k : Nat} {sp : Sp} {C : Addr} {x : Str} {p pos : Pos} {e : Expr} {es : List Expr} {t : TA}
end
noncomputable def Itf (f : Nat → Int) (n : Nat) : It := ⟨fun i _ => i < n, fun i H x H' => H' = H ∧ x = .int (f i), fun i _ => n ≤ i⟩
noncomputable def LcF (n0 : Nat) (f : Nat → Int) (g : TG) (tt : TT) (te : TE) (σ0 : St) (H1 : Hp) (Q : VK) : Prop := ∀ D, H1 D = none → ∃ W : Nat → Nat → St → Hp → Prop, (∃ m, W 0 m σ0 (upd H1 D (.lst []))) ∧ ∀ i m σ' H', W i m σ' H' →
  ((Itf f n0).stop i H' ∧ Q (.ref D) H') ∨ ((Itf f n0).go i H' ∧ ∃ Nx : St → Hp → Prop, (∀ σ2 H2, Nx σ2 H2 → ∃ m', m' < m ∧ W (i + 1) m' σ2 H2) ∧
    ∀ x H2, (Itf f n0).yld i H' x H2 → g x σ' H2 fun σ3 H3 => tt σ3 H3 fun ok H4 => if ok = true then te σ3 H4 fun y H5 => ∃ ys, H5 D = some (.lst ys) ∧ ys.length < sizeLine ∧ Nx σ3 (upd H5 D (.lst (ys ++ [y]))) else Nx σ3 H4)
theorem LcF.by {n0 : Nat} {f : Nat → Int} {g : TG} {tt : TT} {te : TE} {σ0 : St} {H1 : Hp} {Q : VK} (Pv : Addr → Nat → St → Hp → Prop) (h0 : ∀ D, H1 D = none → Pv D 0 σ0 (upd H1 D (.lst [])))
    (hs : ∀ D i σ H, H1 D = none → i < n0 → Pv D i σ H → g (.int (f i)) σ H fun σ3 H3 => tt σ3 H3 fun ok H4 => if ok = true then te σ3 H4 fun y H5 => ∃ ys, H5 D = some (.lst ys) ∧ ys.length < sizeLine ∧ Pv D (i + 1) σ3 (upd H5 D (.lst (ys ++ [y]))) else Pv D (i + 1) σ3 H4)
    (hd : ∀ D σ H, H1 D = none → Pv D n0 σ H → Q (.ref D) H) : LcF n0 f g tt te σ0 H1 Q := by
  intro D hD
  refine ⟨fun i m σ H => m = n0 - i ∧ i ≤ n0 ∧ Pv D i σ H, ⟨n0, by simp, Nat.zero_le _, h0 D hD⟩, ?_⟩
  rintro i m σ H ⟨rfl, hi, p⟩
  by_cases hlt : i < n0
  · refine .inr ⟨hlt, Pv D (i + 1), fun σ' H' p' => ⟨n0 - (i + 1), by omega, rfl, hlt, p'⟩, fun x H' y => ?_⟩
    obtain ⟨e, y⟩ := y
    subst e y
    exact hs D i σ _ hD hlt p
  · have e : i = n0 := by omega
    subst e
    exact .inl ⟨Nat.le_refl _, hd D σ H hD p⟩
end L2
namespace L2
open PySem PySem.Spec PyProof.Rows
theorem jx {X : Cx} {x : Str} {i : Int} {pos : Pos} (hg : Gl X x) (h : ∃ t, X.mg x = some (.int i t)) (hd : (x == ("__debug__" : Str)) = false := by decide) : PE X (.Name x pos) (tC (.int i)) := by
  obtain ⟨t, e⟩ := h
  exact yF hg e ⟨t, rfl⟩ hd
noncomputable def J7 (K : PySem.W.Frag) (a : Addr) (g : TG) (tb : TS) (D : Ends) (σ : St) (H : Hp) : Prop := ∃ W : Nat → Nat → St → Hp → Prop, (∃ m, W 0 m σ H) ∧ ∀ i m σ H, W i m σ H →
  ((Itt K a).stop i H ∧ D.nx σ H) ∨ ((Itt K a).go i H ∧ ∃ N : St → Hp → Prop, (∀ σ' H', N σ' H' → ∃ m', m' < m ∧ W (i + 1) m' σ' H') ∧ ∀ x H', (Itt K a).yld i H x H' → g x σ H' fun σ2 H2 => tb { D with nx := N, ct := N, bk := D.nx } σ2 H2)
theorem J7.run {K : PySem.W.Frag} {a : Addr} {xs : List V} {g : TG} {tb : TS} {D : Ends} {σ : St} {H : Hp} (Pv : Nat → St → Hp → Prop) (h0 : Pv 0 σ H) (hl : ∀ i σ H, i ≤ xs.length → Pv i σ H → SqT K H a xs)
    (hs : ∀ i x σ H, xs[i]? = some x → Pv i σ H → ∀ R : St → Hp → Prop, (∀ σ' H', Pv (i + 1) σ' H' → R σ' H') → g x σ H fun σ2 H2 => tb { D with nx := R, ct := R, bk := D.nx } σ2 H2) (hd : ∀ σ H, Pv xs.length σ H → D.nx σ H) : J7 K a g tb D σ H :=
  KS Pv h0 hl (fun i x σ H hi p => hs i x σ H hi p _ fun _ _ z => z) hd
end L2
namespace L2
open PySem PySem.Spec PyProof.Rows
end L2
namespace L2
open PySem PySem.W PySem.Calls PyProof.Rows
section
variable {X : Cx}
end
end L2
namespace PySem
open PySem PySem.W PySem.Calls PyProof.Rows
section
variable {prog : Program} {w : World} {A : Around} {R : Result → Shared → Prop} {I S : Addr} {fp wr : List Addr} {n : Nat} {P : Nat → Value → Prop} {St : Nat → Heap → Prop}
end
end PySem
namespace L2
open PySem PySem.W PySem.Calls PyProof.Rows
section
variable {X : Cx} {x : Str} {p pos : Pos} {e : Expr} {es : List Expr} {kws : List Keyword} {ks : List Str} {t tk : TA} {id : String} {r : List V → List V → Hp → VK → Prop}
end
end L2
namespace L2
open PySem PySem.Spec PyProof.Rows
section
variable {X : Cx} {k : Nat} {sp : Sp} {C : Addr} {m : Str} {apos pos : Pos} {o e : Expr} {es : List Expr} {ta : TE} {t : TA}
end
end L2
namespace L2
open PySem PySem.Spec PyProof.Rows
structure SV where
  wide : Int
  high : Int
  row : Int
  col : Int
  late : Bool
  ink : Int
  wrap : Bool
  putting : Bool
  home : Bool
  top : Int
  bottom : Int
  left : Int
  right : Int
  last : V
section
variable {p st kp : Addr} {S : SV}
end
section
variable {sl : Addr} {S : SV}
end
section
variable {X : Cx} {o i value : Expr} {td ty tv : TE} {pos pos' : Pos}
theorem PE.cl {e : Expr} {t : TE} (h : PE X e t) : PE X e (fun σ H Q => ∃ Q' : VK, t σ H Q' ∧ ∀ x H1, Q' x H1 → Q x H1) := fun pins s σ H Q I ⟨Q', q, w⟩ =>
  thn (h pins s σ H Q' I q) fun v s1 ⟨x, H1, I1, r1, q1⟩ => ⟨x, H1, I1, r1, w x H1 q1⟩
end
end L2
namespace L2
open PySem PySem.Spec PyProof.Rows
noncomputable def Sh (i : Int) : Prop := -1000000 ≤ i ∧ i ≤ 1000000
theorem kM {K : PySem.W.Frag} {H : Hp} : ∀ ns : List Int, Reps K H (ns.map .int) (ns.map V.int)
  | [] => rfl
  | n :: ns => ⟨_, _, rfl, rfl, kM ns⟩
theorem Sh.log {i : Int} (h : Sh i) : i.natAbs.log2 < 20 := by
  obtain ⟨h1, h2⟩ := h
  by_cases h0 : i.natAbs = 0
  · rw [h0]; decide
  · exact (Nat.log2_lt h0).mpr (by omega)
theorem Sh.w {i : Int} (h : Sh i) : PyData.weight (.int i) ≤ 21 := by
  have := h.log
  simp only [PyData.weight]
  split <;> omega
theorem Sh.short {i : Int} (h : Sh i) : PyData.intsShort 13 (.int i) = true := by
  obtain ⟨h1, h2⟩ := h
  have q : (toString i).length ≤ 7 + 1 := int_text_length_le10 (by decide) (show i.natAbs < 10 ^ 7 by omega)
  have e : (PyData.int i).shown.length = (toString i).length := by
    simp only [PyData.shown]
    exact PySem.ofString_length _
  simp only [PyData.intsShort, decide_eq_true_eq]
  omega
end L2
namespace L2
open PySem PySem.Spec PyProof.Rows
end L2
namespace L2
open PySem PySem.Spec PyProof.Rows
inductive W where
  | d (x : PyData)
  | own (a : Addr)
  | row (a : Addr) (i : Nat)
inductive OO where
  | lst (ws : List W)
  | dK (kvs : List (Key × W))
  | ins (C dx : Addr) (fs : List (Str × W))
  | grid (rows : List (List PyData))
noncomputable abbrev OM := Addr → Option OO
noncomputable def updO (O : OM) (a : Addr) (o : OO) : OM := fun b => if b = a then some o else O b
noncomputable def del (O : OM) (a : Addr) : OM := fun b => if b = a then none else O b
theorem zj {O : OM} {a : Addr} {o : OO} : updO O a o a = some o := by simp [updO]
theorem zi {O : OM} {a b : Addr} {o : OO} (h : b ≠ a) : updO O a o b = O b := by simp [updO, h]
theorem xH {O : OM} {a : Addr} : del O a a = none := by simp [del]
theorem xw {O : OM} {a b : Addr} (h : b ≠ a) : del O a b = O b := by simp [del, h]
theorem UA {O : OM} {a : Addr} {o u : OO} : updO (updO O a o) a u = updO O a u := by
  funext b; unfold updO; split <;> rfl
theorem neO {O : OM} {a b : Addr} {o : OO} (h : O a = some o) (h' : O b = none) : a ≠ b := by
  intro e; subst e; rw [h] at h'; cases h'
structure Gh where
  Z : Hp
  G : Addr → Option (List Addr)
  F : Hp
structure Le (Γ Γ' : Gh) : Prop where
  f : Γ'.F = Γ.F
  z : Same Γ.Z Γ'.Z
  g : ∀ a rs, Γ.G a = some rs → ∃ more, Γ'.G a = some (rs ++ more)
theorem Le.refl (Γ : Gh) : Le Γ Γ := ⟨rfl, Same.refl _, fun _ rs h => ⟨[], by rw [List.append_nil]; exact h⟩⟩
theorem Le.trans {Γ Γ1 Γ2 : Gh} (a : Le Γ Γ1) (b : Le Γ1 Γ2) : Le Γ Γ2 := ⟨b.f.trans a.f, a.z.trans b.z, fun x rs h => by
  obtain ⟨m, h1⟩ := a.g x rs h
  obtain ⟨m2, h2⟩ := b.g x _ h1
  exact ⟨m ++ m2, by rw [← List.append_assoc]; exact h2⟩⟩
theorem Le.zOnly {Γ : Gh} {Z : Hp} (h : Same Γ.Z Z) : Le Γ ⟨Z, Γ.G, Γ.F⟩ := ⟨rfl, h, fun _ rs h => ⟨[], by rw [List.append_nil]; exact h⟩⟩
section
variable (K : PySem.W.Frag)
noncomputable def relW (Γ : Gh) : W → V → Prop
  | .d x, v => Rep K Γ.Z x v
  | .own a, v => v = .ref a
  | .row a i, v => ∃ rs r, Γ.G a = some rs ∧ rs[i]? = some r ∧ v = .ref r
noncomputable abbrev relWs (Γ : Gh) : List W → List V → Prop := Paired (relW K Γ)
noncomputable def qA (Γ : Gh) : Option W → Option V → Prop
  | some w, some v => relW K Γ w v
  | none, _ => True
  | _, _ => False
noncomputable abbrev relR (Γ : Gh) : List (Option W) → St → Prop := Paired (qA K Γ)
noncomputable def jy {κ : Type} (Γ : Gh) : List (κ × W) → List (κ × V) → Prop := Paired fun p q => p.1 = q.1 ∧ relW K Γ p.2 q.2
noncomputable def ObjW (Γ : Gh) (O : OM) (H : Hp) (a : Addr) : OO → Prop
  | .lst ws => ∃ vs, H a = some (.lst vs) ∧ relWs K Γ ws vs
  | .dK kvs => ∃ vs, H a = some (.dK vs) ∧ jy K Γ kvs vs
  | .ins C dx fs => ∃ vs, H a = some (.ins C dx vs) ∧ jy K Γ fs vs
  | .grid rows => ∃ rs, Γ.G a = some rs ∧ H a = some (.lst (rs.map V.ref)) ∧ rs.length = rows.length ∧ rs.Nodup ∧
      ∀ (i : Nat) (r : Addr) (ds : List PyData), rs[i]? = some r → rows[i]? = some ds → Γ.Z r = none ∧ O r = none ∧ ∃ vs, H r = some (.lst vs) ∧ Reps K Γ.Z ds vs
structure Sim (Γ : Gh) (O : OM) (H : Hp) : Prop where
  z : Same Γ.Z H
  o : ∀ a oo, O a = some oo → Γ.Z a = none ∧ ObjW K Γ O H a oo
  gd : ∀ a rs, Γ.G a = some rs → ∃ o, H a = some o
  f : Same Γ.F H
  gn : ∀ a oo, O a = some oo → (∀ rows, oo ≠ .grid rows) → Γ.G a = none
  fg : ∀ a o, Γ.F a = some o → Γ.G a = none
  fd : ∀ a o, Γ.F a = some o → Γ.Z a = none ∧ O a = none ∧ ∀ b rows rs, O b = some (.grid rows) → Γ.G b = some rs → a ∉ rs
  u : ∀ a b ra rb rs ss r, O a = some (.grid ra) → O b = some (.grid rb) → Γ.G a = some rs → Γ.G b = some ss → r ∈ rs → r ∈ ss → a = b
end
section
variable {K : PySem.W.Frag} {Γ Γ' : Gh} {O : OM} {H H' : Hp}
theorem relW.mono (h : Le Γ Γ') : ∀ {w : W} {v : V}, relW K Γ w v → relW K Γ' w v
  | .d x, v, r => Rep.same h.z x v r
  | .own a, v, r => r
  | .row a i, v, ⟨rs, r, e, f, g⟩ => by
    obtain ⟨m, e'⟩ := h.g _ _ e
    have hi : i < rs.length := (List.getElem?_eq_some_iff.mp f).1
    exact ⟨rs ++ m, r, e', by rw [List.getElem?_append_left hi]; exact f, g⟩
theorem relWs.mono (h : Le Γ Γ') {ws : List W} {vs : List V} (r : relWs K Γ ws vs) : relWs K Γ' ws vs := Paired.mapP r fun _ _ z => z.mono h
theorem qA.mono (h : Le Γ Γ') : ∀ {w : Option W} {v : Option V}, qA K Γ w v → qA K Γ' w v
  | some w, some v, r => relW.mono h r
  | none, _, _ => trivial
  | some _, none, r => r.elim
theorem relR.mono (h : Le Γ Γ') {ρ : List (Option W)} {σ : St} (r : relR K Γ ρ σ) : relR K Γ' ρ σ := Paired.mapP r fun _ _ z => z.mono h
theorem jy.mono {κ : Type} (h : Le Γ Γ') {a : List (κ × W)} {b : List (κ × V)} (r : jy K Γ a b) : jy K Γ' a b := Paired.mapP r fun _ _ z => ⟨z.1, z.2.mono h⟩
theorem relR.get {ρ : List (Option W)} {σ : St} : ∀ {i : Nat} {w : W}, relR K Γ ρ σ → ρ[i]? = some (some w) → ∃ v, σ[i]? = some (some v) ∧ relW K Γ w v := by
  intro i w r
  induction r generalizing i with
  | nil => intro e; simp at e
  | cons h t ih =>
    rename_i x y xs ys
    intro e
    cases i with
    | zero =>
      simp at e
      subst e
      cases y with
      | none => exact h.elim
      | some v => exact ⟨v, rfl, h⟩
    | succ i => simpa using ih (i := i) (by simpa using e)
theorem Paired.getP {α β : Type} {F : α → β → Prop} {xs : List α} {ys : List β} (r : Paired F xs ys) : ∀ {i : Nat} {x : α}, xs[i]? = some x → ∃ y, ys[i]? = some y ∧ F x y := by
  induction r with
  | nil => intro i x e; simp at e
  | cons h t ih =>
    intro i x e
    cases i with
    | zero => simp at e; subst e; exact ⟨_, rfl, h⟩
    | succ i => simpa using ih (i := i) (by simpa using e)
theorem Paired.getQ {α β : Type} {F : α → β → Prop} {xs : List α} {ys : List β} (r : Paired F xs ys) : ∀ {i : Nat} {y : β}, ys[i]? = some y → ∃ x, xs[i]? = some x ∧ F x y := by
  induction r with
  | nil => intro i x e; simp at e
  | cons h t ih =>
    intro i x e
    cases i with
    | zero => simp at e; subst e; exact ⟨_, rfl, h⟩
    | succ i => simpa using ih (i := i) (by simpa using e)
theorem Paired.setP {α β : Type} {F : α → β → Prop} {xs : List α} {ys : List β} {x : α} {y : β} (r : Paired F xs ys) (h : F x y) : ∀ {i : Nat}, Paired F (xs.set i x) (ys.set i y) := by
  induction r with
  | nil => intro i; exact .nil
  | cons g t ih =>
    intro i
    cases i with
    | zero => exact .cons h t
    | succ i => exact .cons g ih
theorem Paired.appP {α β : Type} {F : α → β → Prop} {xs xs' : List α} {ys ys' : List β} (r : Paired F xs ys) (s : Paired F xs' ys') : Paired F (xs ++ xs') (ys ++ ys') := by
  induction r with
  | nil => exact s
  | cons h t ih => exact .cons h ih
theorem Paired.takeP {α β : Type} {F : α → β → Prop} {xs : List α} {ys : List β} (r : Paired F xs ys) : ∀ n, Paired F (xs.take n) (ys.take n) := by
  induction r with
  | nil => intro n; simp; exact .nil
  | cons h t ih =>
    intro n
    cases n with
    | zero => exact .nil
    | succ n => exact .cons h (ih n)
theorem Paired.dropP {α β : Type} {F : α → β → Prop} {xs : List α} {ys : List β} (r : Paired F xs ys) : ∀ n, Paired F (xs.drop n) (ys.drop n) := by
  induction r with
  | nil => intro n; simp; exact .nil
  | cons h t ih =>
    intro n
    cases n with
    | zero => exact .cons h t
    | succ n => exact ih n
theorem zK : ∀ {ds : List PyData} {vs : List V}, Reps K Γ.Z ds vs → relWs K Γ (ds.map .d) vs
  | [], _, h => by rw [show _ = [] from h]; exact .nil
  | d :: ds, _, h => by
    obtain ⟨x, r, rfl, h1, h2⟩ := h
    exact .cons h1 (zK h2)
theorem zt : ∀ {ds : List PyData} {vs : List V}, relWs K Γ (ds.map .d) vs → Reps K Γ.Z ds vs
  | [], _, h => by cases h; rfl
  | d :: ds, _, h => by
    cases h with
    | cons a b => exact ⟨_, _, rfl, a, zt b⟩
noncomputable def zq (O : OM) : W → Option (List W)
  | .d (.list ds) => some (ds.map .d)
  | .own a => match O a with
    | some (.lst ws) => some ws
    | some (.grid rows) => some ((List.range rows.length).map (.row a))
    | _ => none
  | .row a i => match O a with
    | some (.grid rows) => (rows[i]?).map (·.map .d)
    | _ => none
  | _ => none
noncomputable def yp : W → Option (List PyData)
  | .d (.tuple ds) => some ds
  | _ => none
theorem xI {w : W} {v : V} {ds : List PyData} (S : Sim K Γ O H) (r : relW K Γ w v) (e : yp w = some ds) : ∃ a vs, v = .ref a ∧ SqT K H a vs ∧ relWs K Γ (ds.map .d) vs := by
  cases w with
  | d x =>
    cases x with
    | tuple es =>
      simp [yp] at e
      subst e
      obtain ⟨a, xs, e1, h1, h2⟩ := r
      exact ⟨a, xs, e1, h1.same S.z, zK h2⟩
    | _ => simp [yp] at e
  | own a => simp [yp] at e
  | row a i => simp [yp] at e
theorem z0 {w : W} {v : V} {ws : List W} (S : Sim K Γ O H) (r : relW K Γ w v) (e : zq O w = some ws) : ∃ a vs, v = .ref a ∧ SqL K H a vs ∧ relWs K Γ ws vs := by
  cases w with
  | d x =>
    cases x with
    | list es =>
      simp [zq] at e
      subst e
      obtain ⟨a, xs, e1, h1, h2⟩ := r
      exact ⟨a, xs, e1, h1.same S.z, zK h2⟩
    | _ => simp [zq] at e
  | own a =>
    cases (show v = .ref a from r)
    simp only [zq] at e
    split at e
    · rename_i us h
      cases e
      obtain ⟨_, vs, h1, h2⟩ := S.o _ _ h
      exact ⟨a, vs, rfl, SqL.of h1, h2⟩
    · rename_i rows h
      cases e
      obtain ⟨_, rs, hg, h1, hl, _, _⟩ := S.o _ _ h
      refine ⟨a, _, rfl, SqL.of h1, ?_⟩
      rw [← hl]
      have key : ∀ (ss : List Addr) (k : Nat), (∀ i, ss[i]? = rs[k + i]?) → relWs K Γ ((List.range' k ss.length).map (W.row a)) (ss.map V.ref) := by
        intro ss
        induction ss with
        | nil => intro k _; exact .nil
        | cons s ss ih =>
          intro k hk
          refine .cons ⟨rs, s, hg, ?_, rfl⟩ (ih (k + 1) fun i => ?_)
          · have := hk 0; simpa using this.symm
          · have := hk (i + 1)
            rw [List.getElem?_cons_succ] at this
            rw [this]
            congr 1
            omega
      have h0 := key rs 0 (fun i => by rw [Nat.zero_add])
      rw [List.range_eq_range']
      exact h0
    · cases e
  | row a i =>
    obtain ⟨rs, r0, hg, hr, rfl⟩ := r
    simp only [zq] at e
    split at e
    · rename_i rows h
      cases hi : rows[i]? with
      | none => rw [hi] at e; cases e
      | some ds =>
        rw [hi] at e
        cases e
        obtain ⟨_, rs', hg', h1, hl, _, hrow⟩ := S.o _ _ h
        rw [hg] at hg'
        cases hg'
        obtain ⟨_, _, vs, h2, h3⟩ := hrow i r0 ds hr hi
        exact ⟨r0, vs, rfl, SqL.of h2, zK h3⟩
    · cases e
noncomputable def zX : List W → Option (List PyData)
  | [] => some []
  | .d x :: ws => (zX ws).map (x :: ·)
  | _ :: _ => none
theorem zY : ∀ ds : List PyData, zX (ds.map .d) = some ds
  | [] => rfl
  | d :: ds => by simp [zX, zY ds]
theorem yc : ∀ {ws : List W} {ds : List PyData}, zX ws = some ds → ws = ds.map .d
  | [], ds, e => by cases e; rfl
  | .d x :: ws, ds, e => by
    simp [zX] at e
    obtain ⟨es, h1, h2⟩ := e
    subst h2
    rw [yc h1]
    rfl
  | .own _ :: _, _, e => by simp [zX] at e
  | .row _ _ :: _, _, e => by simp [zX] at e
noncomputable def j9 (O : OM) : W → Option PyData
  | .d x => some x
  | .own a => match O a with
    | some (.lst ws) => (zX ws).map .list
    | some (.grid rows) => some (.list (rows.map .list))
    | _ => none
  | .row a i => match O a with
    | some (.grid rows) => (rows[i]?).map .list
    | _ => none
theorem ja {w : W} {v : V} {x : PyData} (S : Sim K Γ O H) (r : relW K Γ w v) (e : j9 O w = some x) : Rep K H x v := by
  cases w with
  | d y => cases e; exact Rep.same S.z _ _ r
  | own a =>
    cases (show v = .ref a from r)
    simp only [j9] at e
    split at e
    · rename_i ws h
      cases hd : zX ws with
      | none => rw [hd] at e; cases e
      | some ds =>
        rw [hd] at e
        cases e
        obtain ⟨_, vs, h1, h2⟩ := S.o _ _ h
        rw [yc hd] at h2
        exact ⟨a, vs, rfl, SqL.of h1, Reps.same S.z _ _ (zt h2)⟩
    · rename_i rows h
      cases e
      obtain ⟨_, rs, hg, h1, hl, _, hrow⟩ := S.o _ _ h
      refine ⟨a, _, rfl, SqL.of h1, ?_⟩
      have key : ∀ (rows : List (List PyData)) (rs : List Addr), rs.length = rows.length → (∀ (i : Nat) (r : Addr) (ds : List PyData), rs[i]? = some r → rows[i]? = some ds → ∃ vs, H r = some (.lst vs) ∧ Reps K Γ.Z ds vs) → Reps K H (rows.map .list) (rs.map V.ref) := by
        intro rows
        induction rows with
        | nil => intro rs hl _; cases rs with | nil => rfl | cons _ _ => simp at hl
        | cons row rows ih =>
          intro rs hl hr
          cases rs with
          | nil => simp at hl
          | cons r rs =>
            obtain ⟨vs, h1, h2⟩ := hr 0 r row rfl rfl
            exact ⟨.ref r, _, rfl, ⟨r, vs, rfl, SqL.of h1, Reps.same S.z _ _ h2⟩, ih rs (by simpa using hl) fun i r ds a b => hr (i + 1) r ds (by simpa using a) (by simpa using b)⟩
      exact key rows rs hl fun i r ds a b => (hrow i r ds a b).2.2
    · cases e
  | row a i =>
    obtain ⟨rs, r0, hg, hr, rfl⟩ := r
    simp only [j9] at e
    split at e
    · rename_i rows h
      cases hi : rows[i]? with
      | none => rw [hi] at e; cases e
      | some ds =>
        rw [hi] at e
        cases e
        obtain ⟨_, rs', hg', h1, hl, _, hrow⟩ := S.o _ _ h
        rw [hg] at hg'
        cases hg'
        obtain ⟨_, _, vs, h2, h3⟩ := hrow i r0 ds hr hi
        exact ⟨r0, vs, rfl, SqL.of h2, Reps.same S.z _ _ h3⟩
    · cases e
theorem Sim.free (S : Sim K Γ O H) {p : Addr} (hp : H p = none) : Γ.Z p = none ∧ O p = none ∧ Γ.G p = none := by
  refine ⟨S.z.free hp, ?_, ?_⟩
  · cases e : O p with
    | none => rfl
    | some oo =>
      obtain ⟨_, h⟩ := S.o _ _ e
      cases oo with
      | lst ws => obtain ⟨vs, h1, _⟩ := h; rw [hp] at h1; cases h1
      | dK ws => obtain ⟨vs, h1, _⟩ := h; rw [hp] at h1; cases h1
      | ins C dx ws => obtain ⟨vs, h1, _⟩ := h; rw [hp] at h1; cases h1
      | grid rows => obtain ⟨rs, _, h1, _⟩ := h; rw [hp] at h1; cases h1
  · cases e : Γ.G p with
    | none => rfl
    | some rs =>
      obtain ⟨o, h⟩ := S.gd _ _ e
      rw [hp] at h
      cases h
theorem ObjW.keep {a : Addr} {oo : OO} (h : ObjW K Γ O H a oo) (hl : Le Γ Γ') {O' : OM} (ha : H' a = H a) (hG : Γ'.G a = Γ.G a) (hr : ∀ rs r, Γ.G a = some rs → (∃ rows, oo = .grid rows) → r ∈ rs → H' r = H r ∧ Γ'.Z r = Γ.Z r ∧ O' r = O r) : ObjW K Γ' O' H' a oo := by
  cases oo with
  | lst ws => obtain ⟨vs, h1, h2⟩ := h; exact ⟨vs, by rw [ha]; exact h1, h2.mono hl⟩
  | dK ws => obtain ⟨vs, h1, h2⟩ := h; exact ⟨vs, by rw [ha]; exact h1, h2.mono hl⟩
  | ins C dx ws => obtain ⟨vs, h1, h2⟩ := h; exact ⟨vs, by rw [ha]; exact h1, h2.mono hl⟩
  | grid rows =>
    obtain ⟨rs, hg, h1, h2, hn, h3⟩ := h
    refine ⟨rs, by rw [hG]; exact hg, by rw [ha]; exact h1, h2, hn, fun i r ds e1 e2 => ?_⟩
    obtain ⟨q1, q2, q3⟩ := hr rs r hg ⟨rows, rfl⟩ (List.mem_of_getElem? e1)
    obtain ⟨z1, z2, vs, z3, z4⟩ := h3 i r ds e1 e2
    exact ⟨by rw [q2]; exact z1, by rw [q3]; exact z2, vs, by rw [q1]; exact z3, Reps.same hl.z _ _ z4⟩
theorem Sim.rowIn (S : Sim K Γ O H) {a : Addr} {rows : List (List PyData)} {rs : List Addr} {r : Addr} (ho : O a = some (.grid rows)) (hg : Γ.G a = some rs) (hr : r ∈ rs) : Γ.Z r = none ∧ O r = none ∧ ∃ vs, H r = some (.lst vs) := by
  obtain ⟨_, rs', hg', h1, hl, _, hrow⟩ := S.o _ _ ho
  rw [hg] at hg'
  cases hg'
  obtain ⟨i, hi, rfl⟩ := List.mem_iff_getElem.mp hr
  obtain ⟨z1, z2, vs, z3, _⟩ := hrow i rs[i] (rows[i]'(by omega)) (List.getElem?_eq_getElem hi) (List.getElem?_eq_getElem (by omega))
  exact ⟨z1, z2, vs, z3⟩
theorem Sim.newD (S : Sim K Γ O H) {p : Addr} (hp : H p = none) (o : HO) : Le Γ ⟨upd Γ.Z p o, Γ.G, Γ.F⟩ ∧ Sim K ⟨upd Γ.Z p o, Γ.G, Γ.F⟩ O (upd H p o) := by
  obtain ⟨hz, hO, hG⟩ := S.free hp
  have le : Le Γ ⟨upd Γ.Z p o, Γ.G, Γ.F⟩ := Le.zOnly (yx hz)
  have hF := S.f.free hp
  refine ⟨le, ⟨fun b u e => ?_, fun a oo e => ?_, fun a rs e => ?_, vz S.f hF, S.gn, S.fg, fun a o' e => ?_, S.u⟩⟩
  · replace e : upd Γ.Z p o b = some u := e
    by_cases hb : b = p
    · subst hb; rw [zg] at e; rw [zg]; exact e
    · rw [zd hb] at e; rw [zd hb]; exact S.z _ _ e
  · have hap : a ≠ p := fun z => by rw [z, hO] at e; cases e
    obtain ⟨h1, h2⟩ := S.o _ _ e
    refine ⟨by show upd Γ.Z p o a = none; rw [zd hap]; exact h1, h2.keep le (zd hap) rfl fun rs r hg ⟨rows, hrw⟩ hr => ?_⟩
    subst hrw
    obtain ⟨_, _, vs, q⟩ := S.rowIn e hg hr
    have hrp : r ≠ p := fun z => by rw [z, hp] at q; cases q
    exact ⟨zd hrp, zd hrp, rfl⟩
  · obtain ⟨o', h⟩ := S.gd _ _ e
    exact ⟨o', by rw [zd (zQ h hp)]; exact h⟩
  · obtain ⟨q1, q2, q3⟩ := S.fd a o' e
    exact ⟨(zd (zQ e hF)).trans q1, q2, q3⟩
theorem Sim.newO (S : Sim K Γ O H) {p : Addr} (hp : H p = none) {o : HO} {oo : OO} (hg : ∀ rows, oo ≠ .grid rows) (ho : ObjW K Γ O (upd H p o) p oo) : Sim K Γ (updO O p oo) (upd H p o) := by
  obtain ⟨hz, hO, hG⟩ := S.free hp
  have hF := S.f.free hp
  have k1 : ∀ {x : Addr} {rx : List (List PyData)}, updO O p oo x = some (.grid rx) → O x = some (.grid rx) := fun {x rx} h => by
    by_cases hx : x = p
    · subst hx; rw [zj] at h; cases h; exact absurd rfl (hg rx)
    · rw [zi hx] at h; exact h
  refine ⟨fun b u e => ?_, fun a o' e => ?_, fun a rs e => ?_, vz S.f hF, fun a o' e hn => ?_, S.fg, fun a o' e => ?_, fun a b ra rb rs ss r e1 e2 => S.u a b ra rb rs ss r (k1 e1) (k1 e2)⟩
  · rw [zd (fun z => by rw [z, hz] at e; cases e)]; exact S.z _ _ e
  · by_cases hap : a = p
    · subst hap
      rw [zj] at e
      cases e
      refine ⟨hz, ho.keep (Le.refl _) rfl rfl fun rs r h1 ⟨rows, h2⟩ => absurd h2 (hg rows)⟩
    · rw [zi hap] at e
      obtain ⟨h1, h2⟩ := S.o _ _ e
      refine ⟨h1, h2.keep (Le.refl _) (zd hap) rfl fun rs r hg' ⟨rows, hrw⟩ hr => ?_⟩
      subst hrw
      obtain ⟨_, q2, vs, q⟩ := S.rowIn e hg' hr
      have hrp : r ≠ p := fun z => by rw [z, hp] at q; cases q
      exact ⟨zd hrp, rfl, zi hrp⟩
  · obtain ⟨o', h⟩ := S.gd _ _ e
    exact ⟨o', by rw [zd (zQ h hp)]; exact h⟩
  · by_cases hap : a = p
    · rw [hap]; exact hG
    · rw [zi hap] at e; exact S.gn a o' e hn
  · obtain ⟨q1, q2, q3⟩ := S.fd a o' e
    exact ⟨q1, by rw [zi (zQ e hF)]; exact q2, fun b rows rs e1 => q3 b rows rs (k1 e1)⟩
theorem Sim.put (S : Sim K Γ O H) {a : Addr} {oo o1 : OO} {o : HO} (h0 : O a = some o1) (hn : ∀ rows, o1 ≠ .grid rows) (hg : ∀ rows, oo ≠ .grid rows) (ho : ObjW K Γ O (upd H a o) a oo) : Sim K Γ (updO O a oo) (upd H a o) := by
  obtain ⟨hz, h1⟩ := S.o _ _ h0
  have k1 : ∀ {x : Addr} {rx : List (List PyData)}, updO O a oo x = some (.grid rx) → O x = some (.grid rx) := fun {x rx} h => by
    by_cases hx : x = a
    · subst hx; rw [zj] at h; cases h; exact absurd rfl (hg rx)
    · rw [zi hx] at h; exact h
  have nF : ∀ b o', Γ.F b = some o' → b ≠ a := fun b o' e z => by
    have := (S.fd b o' e).2.1
    rw [z, h0] at this; cases this
  refine ⟨fun b u e => ?_, fun x o' e => ?_, fun x rs e => ?_, fun b u e => ?_, fun x o' e hn' => ?_, S.fg, fun x o' e => ?_, fun x b ra rb rs ss r e1 e2 => S.u x b ra rb rs ss r (k1 e1) (k1 e2)⟩
  · rw [zd (fun z => by rw [z, hz] at e; cases e)]; exact S.z _ _ e
  · by_cases hap : x = a
    · subst hap
      rw [zj] at e
      cases e
      exact ⟨hz, ho.keep (Le.refl _) rfl rfl fun rs r h1 ⟨rows, h2⟩ => absurd h2 (hg rows)⟩
    · rw [zi hap] at e
      obtain ⟨h1, h2⟩ := S.o _ _ e
      refine ⟨h1, h2.keep (Le.refl _) (zd hap) rfl fun rs r hg' ⟨rows, hrw⟩ hr => ?_⟩
      subst hrw
      obtain ⟨_, q2, vs, q⟩ := S.rowIn e hg' hr
      have hrp : r ≠ a := fun z => by rw [z, h0] at q2; cases q2
      exact ⟨zd hrp, rfl, zi hrp⟩
  · obtain ⟨o', h⟩ := S.gd _ _ e
    by_cases hx : x = a
    · exact ⟨o, by rw [hx, zg]⟩
    · exact ⟨o', by rw [zd hx]; exact h⟩
  · rw [zd (nF _ _ e)]; exact S.f _ _ e
  · by_cases hap : x = a
    · rw [hap]; exact S.gn a o1 h0 hn
    · rw [zi hap] at e; exact S.gn x o' e hn'
  · obtain ⟨q1, q2, q3⟩ := S.fd x o' e
    exact ⟨q1, by rw [zi (nF _ _ e)]; exact q2, fun b rows rs e1 => q3 b rows rs (k1 e1)⟩
theorem Sim.drop (S : Sim K Γ O H) (a : Addr) : Sim K Γ (del O a) H := by
  have k1 : ∀ {x : Addr} {o : OO}, del O a x = some o → x ≠ a ∧ O x = some o := fun {x o} h => by
    by_cases hx : x = a
    · subst hx; rw [xH] at h; cases h
    · rw [xw hx] at h; exact ⟨hx, h⟩
  refine ⟨S.z, fun x o e => ?_, S.gd, S.f, fun x o e hn => S.gn x o (k1 e).2 hn, S.fg, fun x o e => ⟨(S.fd x o e).1, by unfold del; split; rfl; exact (S.fd x o e).2.1, fun b rows rs e1 => (S.fd x o e).2.2 b rows rs (k1 e1).2⟩, fun x b ra rb rs ss r e1 e2 => S.u x b ra rb rs ss r (k1 e1).2 (k1 e2).2⟩
  obtain ⟨hx, e⟩ := k1 e
  obtain ⟨h1, h2⟩ := S.o _ _ e
  refine ⟨h1, h2.keep (Le.refl _) rfl rfl fun rs r hg ⟨rows, hrw⟩ hr => ?_⟩
  subst hrw
  obtain ⟨_, q2, _⟩ := S.rowIn e hg hr
  refine ⟨rfl, rfl, ?_⟩
  rw [q2]
  unfold del
  split
  · rfl
  · exact q2
theorem Sim.freeze (S : Sim K Γ O H) {a : Addr} {ds : List PyData} (h : O a = some (.lst (ds.map .d))) : ∃ Γ', Le Γ Γ' ∧ Sim K Γ' (del O a) H ∧ relW K Γ' (.d (.list ds)) (.ref a) := by
  obtain ⟨hz, vs, h1, h2⟩ := S.o _ _ h
  have le : Le Γ ⟨upd Γ.Z a (.lst vs), Γ.G, Γ.F⟩ := Le.zOnly (yx hz)
  have S1 := S.drop a
  have nF : ∀ b o', Γ.F b = some o' → b ≠ a := fun b o' e z => by
    have := (S.fd b o' e).2.1
    rw [z, h] at this; cases this
  refine ⟨⟨upd Γ.Z a (.lst vs), Γ.G, Γ.F⟩, le, ⟨fun b u e => ?_, fun x o e => ?_, S.gd, S.f, S1.gn, S.fg, fun x o e => ⟨(zd (nF x o e)).trans (S1.fd x o e).1, (S1.fd x o e).2⟩, S1.u⟩, ⟨a, vs, rfl, SqL.of zg, Reps.same le.z _ _ (zt h2)⟩⟩
  · replace e : upd Γ.Z a (.lst vs) b = some u := e
    by_cases hb : b = a
    · subst hb; rw [zg] at e; cases e; exact h1
    · rw [zd hb] at e; exact S.z _ _ e
  · have hx : x ≠ a := fun z => by rw [z, xH] at e; cases e
    obtain ⟨q1, q2⟩ := S1.o _ _ e
    refine ⟨by show upd Γ.Z a _ x = none; rw [zd hx]; exact q1, q2.keep le rfl rfl fun rs r hg ⟨rows, hrw⟩ hr => ⟨rfl, ?_, rfl⟩⟩
    subst hrw
    rw [xw hx] at e
    obtain ⟨_, q2, _⟩ := S.rowIn e hg hr
    exact zd (fun z => by rw [z, h] at q2; cases q2)
theorem Sim.cell (S : Sim K Γ O H) {a r : Addr} {rows : List (List PyData)} {rs : List Addr} {i j : Nat} {ds : List PyData} {vs : List V} {x : PyData} {v : V} (h0 : O a = some (.grid rows)) (hg : Γ.G a = some rs) (hr : rs[i]? = some r) (hd : rows[i]? = some ds)
    (hv : H r = some (.lst vs)) (rx : Rep K Γ.Z x v) : Sim K Γ (updO O a (.grid (rows.set i (ds.set j x)))) (upd H r (.lst (vs.set j v))) := by
  obtain ⟨hz, rs', hg', h1, hl, hn, hrow⟩ := S.o _ _ h0
  rw [hg] at hg'
  cases hg'
  obtain ⟨z1, z2, vs', z3, z4⟩ := hrow i r ds hr hd
  rw [hv] at z3
  cases z3
  have har : a ≠ r := fun e => by rw [← e, h0] at z2; cases z2
  have nF : ∀ b o', Γ.F b = some o' → b ≠ r := fun b o' e z => (S.fd b o' e).2.2 a rows rs h0 hg (by rw [z]; exact List.mem_of_getElem? hr)
  have nFa : ∀ b o', Γ.F b = some o' → b ≠ a := fun b o' e z => by
    have := (S.fd b o' e).2.1
    rw [z, h0] at this; cases this
  have kg : ∀ {b : Addr} {rb : List (List PyData)}, updO O a (.grid (rows.set i (ds.set j x))) b = some (.grid rb) → ∃ ry, O b = some (.grid ry) := fun {b rb} e1 => by
    by_cases hx : b = a
    · exact ⟨rows, by rw [hx]; exact h0⟩
    · rw [zi hx] at e1; exact ⟨rb, e1⟩
  refine ⟨fun b u e => ?_, fun b oo e => ?_, fun b ss e => ?_, fun b u e => by rw [zd (nF _ _ e)]; exact S.f _ _ e, fun b o' e hn' => ?_, S.fg, fun b o' e => ⟨(S.fd b o' e).1, by rw [zi (nFa _ _ e)]; exact (S.fd b o' e).2.1, fun c rc ss e1 g1 => by obtain ⟨ry, e2⟩ := kg e1; exact (S.fd b o' e).2.2 c ry ss e2 g1⟩, fun b c rb rc ss tt q e1 e2 h3 h4 h5 h6 => ?_⟩
  · rw [zd (fun z => by rw [z, z1] at e; cases e)]; exact S.z _ _ e
  · by_cases hb : b = a
    · subst hb
      rw [zj] at e
      cases e
      refine ⟨hz, rs, hg, by rw [zd har]; exact h1, by rw [List.length_set]; exact hl, hn, fun k q es e1 e2 => ?_⟩
      have hq : O q = none := (S.rowIn h0 hg (List.mem_of_getElem? e1)).2.1
      have hqb : q ≠ b := fun e => by rw [e, h0] at hq; cases hq
      by_cases hk : k = i
      · subst hk
        rw [hr] at e1
        cases e1
        rw [List.getElem?_set_self (List.getElem?_eq_some_iff.mp hd).1] at e2
        cases e2
        refine ⟨z1, by rw [zi hqb]; exact z2, _, zg, ?_⟩
        have hw := zK (Γ := Γ) z4
        have hw2 := Paired.setP hw (show relW K Γ (.d x) v from rx) (i := j)
        rw [← List.map_set] at hw2
        exact zt hw2
      · have hne : q ≠ r := fun e => by
          rw [e] at e1
          obtain ⟨l1, g1⟩ := List.getElem?_eq_some_iff.mp e1
          obtain ⟨l2, g2⟩ := List.getElem?_eq_some_iff.mp hr
          exact hk ((List.getElem_inj hn).mp (g1.trans g2.symm))
        rw [List.getElem?_set_ne (Ne.symm hk)] at e2
        obtain ⟨y1, y2, ws, y3, y4⟩ := hrow k q es e1 e2
        exact ⟨y1, by rw [zi hqb]; exact y2, ws, by rw [zd hne]; exact y3, y4⟩
    · rw [zi hb] at e
      obtain ⟨q1, q2⟩ := S.o _ _ e
      have hbr : b ≠ r := fun z => by rw [z, z2] at e; cases e
      refine ⟨q1, q2.keep (Le.refl _) (zd hbr) rfl fun ss q hgs ⟨rows', hrw⟩ hq => ?_⟩
      subst hrw
      obtain ⟨w1, w2, ws, w3⟩ := S.rowIn e hgs hq
      have hqr : q ≠ r := fun z => hb (S.u b a rows' rows ss rs q e h0 hgs hg hq (by rw [z]; exact List.mem_of_getElem? hr))
      exact ⟨zd hqr, rfl, zi (fun z => by rw [z, h0] at w2; cases w2)⟩
  · obtain ⟨o, h⟩ := S.gd _ _ e
    by_cases hb : b = r
    · exact ⟨_, by rw [hb, zg]⟩
    · exact ⟨o, by rw [zd hb]; exact h⟩
  · by_cases hb : b = a
    · subst hb; rw [zj] at e; cases e; exact absurd rfl (hn' _)
    · rw [zi hb] at e; exact S.gn b o' e hn'
  · obtain ⟨r1, f1⟩ := kg e1
    obtain ⟨r2, f2⟩ := kg e2
    exact S.u b c r1 r2 ss tt q f1 f2 h3 h4 h5 h6
theorem Sim.absorb (S : Sim K Γ O H) {a b : Addr} {rows : List (List PyData)} {rs : List Addr} {ds : List PyData} (h0 : O a = some (.grid rows)) (hg : Γ.G a = some rs) (hb : O b = some (.lst (ds.map .d))) :
    H a = some (.lst (rs.map V.ref)) ∧ rs.length = rows.length ∧ ∃ Γ', Le Γ Γ' ∧ Sim K Γ' (updO (del O b) a (.grid (rows ++ [ds]))) (upd H a (.lst (rs.map V.ref ++ [.ref b]))) := by
  obtain ⟨hz, rs', hg', h1, hl, hn, hrow⟩ := S.o _ _ h0
  rw [hg] at hg'
  cases hg'
  obtain ⟨hzb, vb, hb1, hb2⟩ := S.o _ _ hb
  have hab : a ≠ b := fun e => by rw [e, hb] at h0; cases h0
  have hbr : b ∉ rs := fun m => by
    obtain ⟨_, q, _⟩ := S.rowIn h0 hg m
    rw [hb] at q; cases q
  have le : Le Γ ⟨Γ.Z, fun x => if x = a then some (rs ++ [b]) else Γ.G x, Γ.F⟩ := ⟨rfl, Same.refl _, fun x ss h => by
    by_cases hx : x = a
    · subst hx; rw [hg] at h; cases h; exact ⟨[b], by simp⟩
    · exact ⟨[], by simp [hx, h]⟩⟩
  have nFa : ∀ c o', Γ.F c = some o' → c ≠ a := fun c o' e z => by
    have := (S.fd c o' e).2.1
    rw [z, h0] at this; cases this
  have nFb : ∀ c o', Γ.F c = some o' → c ≠ b := fun c o' e z => by
    have := (S.fd c o' e).2.1
    rw [z, hb] at this; cases this
  have k1 : ∀ {x : Addr} {rx : List (List PyData)}, updO (del O b) a (.grid (rows ++ [ds])) x = some (.grid rx) → ∃ ry, O x = some (.grid ry) := fun {x rx} h => by
    by_cases hx : x = a
    · exact ⟨rows, by rw [hx]; exact h0⟩
    · rw [zi hx] at h
      by_cases hxb : x = b
      · rw [hxb, xH] at h; cases h
      · rw [xw hxb] at h; exact ⟨rx, h⟩
  refine ⟨h1, hl, _, le, ⟨fun x u e => ?_, fun x oo e => ?_, fun x ss e => ?_, fun c u e => by rw [zd (nFa _ _ e)]; exact S.f _ _ e, fun x o' e hn' => ?_, fun c o' e => by have hne := nFa c o' e; simpa [hne] using S.fg c o' e, fun c o' e => ⟨(S.fd c o' e).1, by rw [zi (nFa _ _ e), xw (nFb _ _ e)]; exact (S.fd c o' e).2.1, fun d rd ss e1 g1 => ?_⟩, fun x y ra rb ss tt r e1 e2 g1 g2 m1 m2 => ?_⟩⟩
  · rw [zd (fun z => by rw [z, show ({ Z := Γ.Z, G := fun x => if x = a then some (rs ++ [b]) else Γ.G x, F := Γ.F } : Gh).Z a = none from hz] at e; cases e)]; exact S.z _ _ e
  · by_cases hx : x = a
    · subst hx
      rw [zj] at e
      cases e
      refine ⟨hz, rs ++ [b], by simp, by rw [zg, List.map_append]; rfl, by simp [hl], ?_, fun i r es e1 e2 => ?_⟩
      · rw [List.nodup_append]
        exact ⟨hn, by simp, fun u hu v hv => by simp at hv; subst hv; exact fun z => hbr (by rw [← z]; exact hu)⟩
      · by_cases hi : i < rs.length
        · rw [List.getElem?_append_left hi] at e1
          rw [List.getElem?_append_left (by omega)] at e2
          obtain ⟨y1, y2, ws, y3, y4⟩ := hrow i r es e1 e2
          have hrx : r ≠ x := fun z => by rw [z, h0] at y2; cases y2
          refine ⟨y1, ?_, ws, by rw [zd hrx]; exact y3, y4⟩
          rw [zi hrx]
          unfold del
          split
          · rfl
          · exact y2
        · have hi2 : i = rs.length := by
            have := (List.getElem?_eq_some_iff.mp e1).1
            simp at this; omega
          subst hi2
          rw [List.getElem?_append_right (Nat.le_refl _)] at e1
          simp at e1
          subst e1
          rw [hl, List.getElem?_append_right (Nat.le_refl _)] at e2
          simp at e2
          subst e2
          exact ⟨hzb, by rw [zi (Ne.symm hab), xH], vb, by rw [zd (Ne.symm hab)]; exact hb1, zt (Γ := Γ) hb2⟩
    · rw [zi hx] at e
      have hxb : x ≠ b := fun z => by rw [z, xH] at e; cases e
      rw [xw hxb] at e
      obtain ⟨q1, q2⟩ := S.o _ _ e
      refine ⟨q1, q2.keep le (zd hx) (by simp [hx]) fun ss r hgs ⟨rows', hrw⟩ hq => ?_⟩
      subst hrw
      obtain ⟨w1, w2, ws, w3⟩ := S.rowIn e hgs hq
      have hra : r ≠ a := fun z => by rw [z, h0] at w2; cases w2
      have hrb : r ≠ b := fun z => by rw [z, hb] at w2; cases w2
      exact ⟨zd hra, rfl, by rw [zi hra, xw hrb]⟩
  · by_cases hx : x = a
    · exact ⟨_, by rw [hx, zg]⟩
    · obtain ⟨o, h⟩ := S.gd x ss (by simpa [hx] using e)
      exact ⟨o, by rw [zd hx]; exact h⟩
  · by_cases hx : x = a
    · subst hx; rw [zj] at e; cases e; exact absurd rfl (hn' _)
    · rw [zi hx] at e
      by_cases hxb : x = b
      · rw [hxb, xH] at e; cases e
      · rw [xw hxb] at e
        simpa [hx] using S.gn x o' e hn'
  · by_cases hd : d = a
    · subst hd
      simp at g1
      subst g1
      intro m
      rcases List.mem_append.mp m with m | m
      · exact (S.fd c o' e).2.2 d rows rs h0 hg m
      · simp at m; exact nFb _ _ e m
    · obtain ⟨ry, e2⟩ := k1 e1
      exact (S.fd c o' e).2.2 d ry ss e2 (by simpa [hd] using g1)
  · obtain ⟨r1, f1⟩ := k1 e1
    obtain ⟨r2, f2⟩ := k1 e2
    have nb : ∀ {z : Addr} {rz : List (List PyData)} {sz : List Addr}, O z = some (.grid rz) → Γ.G z = some sz → b ∉ sz := fun hz1 hz2 m => by
      obtain ⟨_, q, _⟩ := S.rowIn hz1 hz2 m
      rw [hb] at q; cases q
    by_cases hx : x = a
    · by_cases hy : y = a
      · rw [hx, hy]
      · have g2' : Γ.G y = some tt := by simpa [hy] using g2
        rw [hx] at g1 ⊢
        simp at g1
        subst g1
        rcases List.mem_append.mp m1 with m | m
        · exact S.u a y rows r2 rs tt r h0 f2 hg g2' m m2
        · simp at m; subst m; exact absurd m2 (nb f2 g2')
    · have g1' : Γ.G x = some ss := by simpa [hx] using g1
      by_cases hy : y = a
      · rw [hy] at g2 ⊢
        simp at g2
        subst g2
        rcases List.mem_append.mp m2 with m | m
        · exact S.u x a r1 rows ss rs r f1 h0 g1' hg m1 m
        · simp at m; subst m; exact absurd m1 (nb f1 g1')
      · exact S.u x y r1 r2 ss tt r f1 f2 g1' (by simpa [hy] using g2) m1 m2
theorem relW.setF {F : Hp} : ∀ {w : W} {v : V}, relW K Γ w v → relW K ⟨Γ.Z, Γ.G, F⟩ w v
  | .d _, _, h => h
  | .own _, _, h => h
  | .row _ _, _, h => h
theorem relR.setF {F : Hp} {ρ : List (Option W)} {σ : St} (r : relR K Γ ρ σ) : relR K ⟨Γ.Z, Γ.G, F⟩ ρ σ := Paired.mapP r fun a b h => by
  cases a with
  | none => trivial
  | some w => cases b with
    | none => exact h
    | some v => exact relW.setF h
theorem ObjW.setF {F : Hp} {a : Addr} {oo : OO} (h : ObjW K Γ O H a oo) : ObjW K ⟨Γ.Z, Γ.G, F⟩ O H a oo := by
  cases oo with
  | lst ws => obtain ⟨vs, h1, h2⟩ := h; exact ⟨vs, h1, Paired.mapP h2 fun _ _ z => z.setF⟩
  | dK ws => obtain ⟨vs, h1, h2⟩ := h; exact ⟨vs, h1, Paired.mapP h2 fun _ _ z => ⟨z.1, z.2.setF⟩⟩
  | ins C dx ws => obtain ⟨vs, h1, h2⟩ := h; exact ⟨vs, h1, Paired.mapP h2 fun _ _ z => ⟨z.1, z.2.setF⟩⟩
  | grid rows => exact h
theorem Sim.frameNew (S : Sim K Γ O H) {p : Addr} (hp : H p = none) (o : HO) : Sim K ⟨Γ.Z, Γ.G, upd Γ.F p o⟩ O (upd H p o) := by
  obtain ⟨hz, hO, hG⟩ := S.free hp
  have key : ∀ a o', upd Γ.F p o a = some o' → a = p ∨ (a ≠ p ∧ Γ.F a = some o') := fun a o' e => by
    by_cases ha : a = p
    · exact .inl ha
    · rw [zd ha] at e; exact .inr ⟨ha, e⟩
  refine ⟨fun b u e => ?_, fun a oo e => ?_, fun a rs e => ?_, fun b u e => ?_, S.gn, fun a o' e => ?_, fun a o' e => ?_, S.u⟩
  · rw [zd (fun z => by rw [z, show ({ Z := Γ.Z, G := Γ.G, F := upd Γ.F p o } : Gh).Z p = none from hz] at e; cases e)]; exact S.z _ _ e
  · have hap : a ≠ p := fun z => by rw [z, hO] at e; cases e
    obtain ⟨h1, h2⟩ := S.o _ _ e
    refine ⟨h1, (h2.keep (Le.refl _) (zd hap) rfl fun rs r hg ⟨rows, hrw⟩ hr => ?_).setF⟩
    subst hrw
    obtain ⟨_, _, vs, q⟩ := S.rowIn e hg hr
    exact ⟨zd (fun z => by rw [z, hp] at q; cases q), rfl, rfl⟩
  · obtain ⟨o', h⟩ := S.gd _ _ e
    exact ⟨o', by rw [zd (zQ h hp)]; exact h⟩
  · replace e : upd Γ.F p o b = some u := e
    rcases key b u e with rfl | ⟨hb, e'⟩
    · rw [zg] at e ⊢; exact e
    · rw [zd hb]; exact S.f _ _ e'
  · rcases key a o' e with rfl | ⟨hb, e'⟩
    · exact hG
    · exact S.fg _ _ e'
  · rcases key a o' e with rfl | ⟨hb, e'⟩
    · refine ⟨hz, hO, fun b rows rs e1 g1 m => ?_⟩
      obtain ⟨_, _, vs, q⟩ := S.rowIn e1 g1 m
      rw [hp] at q; cases q
    · exact S.fd _ _ e'
theorem Sim.framePut (S : Sim K Γ O H) {a : Addr} {o1 : HO} (h : Γ.F a = some o1) (o : HO) : Sim K ⟨Γ.Z, Γ.G, upd Γ.F a o⟩ O (upd H a o) := by
  obtain ⟨hz, hO, hr⟩ := S.fd _ _ h
  have hG := S.fg _ _ h
  have key : ∀ b o', upd Γ.F a o b = some o' → b = a ∨ (b ≠ a ∧ Γ.F b = some o') := fun b o' e => by
    by_cases ha : b = a
    · exact .inl ha
    · rw [zd ha] at e; exact .inr ⟨ha, e⟩
  refine ⟨fun b u e => ?_, fun b oo e => ?_, fun b rs e => ?_, fun b u e => ?_, S.gn, fun b o' e => ?_, fun b o' e => ?_, S.u⟩
  · rw [zd (fun z => by rw [z, show ({ Z := Γ.Z, G := Γ.G, F := upd Γ.F a o } : Gh).Z a = none from hz] at e; cases e)]; exact S.z _ _ e
  · have hap : b ≠ a := fun z => by rw [z, hO] at e; cases e
    obtain ⟨h1, h2⟩ := S.o _ _ e
    refine ⟨h1, (h2.keep (Le.refl _) (zd hap) rfl fun rs r hg ⟨rows, hrw⟩ hm => ?_).setF⟩
    subst hrw
    exact ⟨zd (fun z => hr b rows rs e hg (by rw [← z]; exact hm)), rfl, rfl⟩
  · obtain ⟨o', h⟩ := S.gd _ _ e
    by_cases hb : b = a
    · exact ⟨o, by rw [hb, zg]⟩
    · exact ⟨o', by rw [zd hb]; exact h⟩
  · replace e : upd Γ.F a o b = some u := e
    rcases key b u e with rfl | ⟨hb, e'⟩
    · rw [zg] at e ⊢; exact e
    · rw [zd hb]; exact S.f _ _ e'
  · rcases key b o' e with rfl | ⟨hb, e'⟩
    · exact hG
    · exact S.fg _ _ e'
  · rcases key b o' e with rfl | ⟨hb, e'⟩
    · exact ⟨hz, hO, hr⟩
    · exact S.fd _ _ e'
theorem Sim.unframe (S : Sim K Γ O H) {a : Addr} {ds : List PyData} {vs : List V} {F : Hp} (hF : Γ.F = upd F a (.lst vs)) (h0 : F a = none) (hr : Reps K Γ.Z ds vs) :
    Same Γ.Z (upd Γ.Z a (.lst vs)) ∧ Sim K ⟨upd Γ.Z a (.lst vs), Γ.G, F⟩ O H ∧ relW K ⟨upd Γ.Z a (.lst vs), Γ.G, F⟩ (.d (.list ds)) (.ref a) := by
  have hFa : Γ.F a = some (.lst vs) := by rw [hF, zg]
  obtain ⟨hz, hO, hrow⟩ := S.fd _ _ hFa
  have le : Le Γ ⟨upd Γ.Z a (.lst vs), Γ.G, Γ.F⟩ := Le.zOnly (yx hz)
  have kF : ∀ b o, F b = some o → b ≠ a ∧ Γ.F b = some o := fun b o e => by
    have hb : b ≠ a := fun z => by rw [z, h0] at e; cases e
    exact ⟨hb, by rw [hF, zd hb]; exact e⟩
  refine ⟨yx hz, ⟨fun b u e => ?_, fun b oo e => ?_, S.gd, fun b u e => S.f _ _ (kF b u e).2, S.gn, fun b o e => S.fg b o (kF b o e).2, fun b o e => ⟨(zd (kF b o e).1).trans (S.fd b o (kF b o e).2).1, (S.fd b o (kF b o e).2).2⟩, S.u⟩, ⟨a, vs, rfl, SqL.of zg, Reps.same (yx hz) _ _ hr⟩⟩
  · replace e : upd Γ.Z a (.lst vs) b = some u := e
    by_cases hb : b = a
    · subst hb; rw [zg] at e; cases e; exact S.f _ _ hFa
    · rw [zd hb] at e; exact S.z _ _ e
  · obtain ⟨q1, q2⟩ := S.o _ _ e
    have hb : b ≠ a := fun z => by rw [z, hO] at e; cases e
    refine ⟨(zd hb).trans q1, (q2.keep le rfl rfl fun rs r hg ⟨rows, hrw⟩ hm => ⟨rfl, ?_, rfl⟩).setF⟩
    subst hrw
    exact zd (fun z => hrow b rows rs e hg (by rw [← z]; exact hm))
end
end L2
namespace L2
open PySem PySem.Spec PyProof.Rows
noncomputable abbrev WS := List (Option W)
noncomputable abbrev WK := W → OM → Prop
noncomputable abbrev TEW := WS → OM → WK → Prop
noncomputable abbrev TTW := WS → OM → (Bool → OM → Prop) → Prop
noncomputable abbrev TAW := WS → OM → (List W → OM → Prop) → Prop
structure EndsW where
  nx : WS → OM → Prop
  rt : WK
  bk : WS → OM → Prop := fun _ _ => False
  ct : WS → OM → Prop := fun _ _ => False
noncomputable abbrev TSW := EndsW → WS → OM → Prop
noncomputable abbrev TGW := W → WS → OM → (WS → OM → Prop) → Prop
noncomputable abbrev TGsW := List PyData → WS → OM → (WS → OM → Prop) → Prop
noncomputable abbrev R2W := W → W → OM → WK → Prop
section
variable (K : PySem.W.Frag)
noncomputable def zn (t : TE) (T : TEW) : Prop := ∀ Γ O H ρ σ, Sim K Γ O H → relR K Γ ρ σ → ∀ (Q : VK) (R : WK), T ρ O R → (∀ Γ' O' H' w v, Le Γ Γ' → Sim K Γ' O' H' → relW K Γ' w v → R w O' → Q v H') → t σ H Q
noncomputable def yK (t : TT) (T : TTW) : Prop := ∀ Γ O H ρ σ, Sim K Γ O H → relR K Γ ρ σ → ∀ (Q : Bool → Hp → Prop) (R : Bool → OM → Prop), T ρ O R → (∀ Γ' O' H' b, Le Γ Γ' → Sim K Γ' O' H' → R b O' → Q b H') → t σ H Q
noncomputable def yC (t : TA) (T : TAW) : Prop := ∀ Γ O H ρ σ, Sim K Γ O H → relR K Γ ρ σ → ∀ (Q : List V → Hp → Prop) (R : List W → OM → Prop), T ρ O R → (∀ Γ' O' H' ws vs, Le Γ Γ' → Sim K Γ' O' H' → relWs K Γ' ws vs → R ws O' → Q vs H') → t σ H Q
structure EndsR (Γ : Gh) (D : Ends) (DW : EndsW) : Prop where
  nx : ∀ Γ' O' H' ρ' σ', Le Γ Γ' → Sim K Γ' O' H' → relR K Γ' ρ' σ' → DW.nx ρ' O' → D.nx σ' H'
  rt : ∀ Γ' O' H' w v, Le Γ Γ' → Sim K Γ' O' H' → relW K Γ' w v → DW.rt w O' → D.rt v H'
  bk : ∀ Γ' O' H' ρ' σ', Le Γ Γ' → Sim K Γ' O' H' → relR K Γ' ρ' σ' → DW.bk ρ' O' → D.bk σ' H'
  ct : ∀ Γ' O' H' ρ' σ', Le Γ Γ' → Sim K Γ' O' H' → relR K Γ' ρ' σ' → DW.ct ρ' O' → D.ct σ' H'
noncomputable def RefS (t : TS) (T : TSW) : Prop := ∀ Γ O H ρ σ D DW, Sim K Γ O H → relR K Γ ρ σ → T DW ρ O → EndsR K Γ D DW → t D σ H
noncomputable def RefG (t : TG) (T : TGW) : Prop := ∀ Γ O H ρ σ w v, Sim K Γ O H → relR K Γ ρ σ → relW K Γ w v → ∀ (Q : St → Hp → Prop) (R : WS → OM → Prop), T w ρ O R → (∀ Γ' O' H' ρ' σ', Le Γ Γ' → Sim K Γ' O' H' → relR K Γ' ρ' σ' → R ρ' O' → Q σ' H') → t v σ H Q
noncomputable def RefGs (t : TGs) (T : TGsW) : Prop := ∀ Γ O H ρ σ ds vs, Sim K Γ O H → relR K Γ ρ σ → Reps K Γ.Z ds vs → ∀ (Q : St → Hp → Prop) (R : WS → OM → Prop), T ds ρ O R → (∀ Γ' O' H' ρ' σ', Le Γ Γ' → Sim K Γ' O' H' → relR K Γ' ρ' σ' → R ρ' O' → Q σ' H') → t vs σ H Q
noncomputable def RefR (r : R2) (rw : R2W) : Prop := ∀ Γ O H x y v u, Sim K Γ O H → relW K Γ x v → relW K Γ y u → ∀ (Q : VK) (R : WK), rw x y O R → (∀ Γ' O' H' w v, Le Γ Γ' → Sim K Γ' O' H' → relW K Γ' w v → R w O' → Q v H') → r v u H Q
noncomputable def RefU (r : V → Hp → VK → Prop) (rw : W → OM → WK → Prop) : Prop := ∀ Γ O H x v, Sim K Γ O H → relW K Γ x v → ∀ (Q : VK) (R : WK), rw x O R → (∀ Γ' O' H' w v, Le Γ Γ' → Sim K Γ' O' H' → relW K Γ' w v → R w O' → Q v H') → r v H Q
noncomputable def RefC (r : List V → Hp → VK → Prop) (rw : List W → OM → WK → Prop) : Prop := ∀ Γ O H xs vs, Sim K Γ O H → relWs K Γ xs vs → ∀ (Q : VK) (R : WK), rw xs O R → (∀ Γ' O' H' w v, Le Γ Γ' → Sim K Γ' O' H' → relW K Γ' w v → R w O' → Q v H') → r vs H Q
noncomputable def RefM (ty : String) (r : V → List V → Hp → VK → Prop) (rw : W → List W → OM → WK → Prop) : Prop := ∀ Γ O H x v xs vs, Sim K Γ O H → relW K Γ x v → relWs K Γ xs vs → ∀ (Q : VK) (R : WK), rw x xs O R → (∀ Γ' O' H' w v, Le Γ Γ' → Sim K Γ' O' H' → relW K Γ' w v → R w O' → Q v H') → r v vs H Q
end
section
variable {K : PySem.W.Frag}
theorem EndsR.mono {Γ Γ' : Gh} {D : Ends} {DW : EndsW} (h : EndsR K Γ D DW) (l : Le Γ Γ') : EndsR K Γ' D DW :=
  ⟨fun _ _ _ _ _ l2 => h.nx _ _ _ _ _ (l.trans l2), fun _ _ _ _ _ l2 => h.rt _ _ _ _ _ (l.trans l2), fun _ _ _ _ _ l2 => h.bk _ _ _ _ _ (l.trans l2), fun _ _ _ _ _ l2 => h.ct _ _ _ _ _ (l.trans l2)⟩
noncomputable def ofV : V → W
  | .int i => .d (.int i)
  | .bl b => .d (.bool b)
  | .str x => .d (.str x)
  | _ => .d .none
noncomputable def scV : V → Bool
  | .int _ => true
  | .bl _ => true
  | .str _ => true
  | .non => true
  | _ => false
theorem qB {Γ : Gh} {v : V} (h : scV v = true) : relW K Γ (ofV v) v := by
  cases v <;> first | rfl | simp [scV] at h
noncomputable def vOf : PyData → V
  | .int i => .int i
  | .bool b => .bl b
  | .str x => .str x
  | .none => .non
  | _ => .ty ""
noncomputable def scD : PyData → Bool
  | .int _ => true
  | .bool _ => true
  | .str _ => true
  | .none => true
  | _ => false
theorem ui {Z : Hp} {x : PyData} {v : V} (h : Rep K Z x v) (s : scD x = true) : v = vOf x := by
  cases x <;> first | exact h | simp [scD] at s
theorem yL {Γ : Gh} {b : Bool} : relW K Γ (.d (.bool b)) (.bl b) := rfl
theorem uj {Γ : Gh} {b : Str} : relW K Γ (.d (.str b)) (.str b) := rfl
theorem xn {Γ : Gh} {b : Int} : relW K Γ (.d (.int b)) (.int b) := rfl
theorem xJ {Γ : Gh} {a : Addr} : relW K Γ (.own a) (.ref a) := rfl
theorem J8 {Γ : Gh} {x : PyData} {v : V} (h : Rep K Γ.Z x v) : relW K Γ (.d x) v := h
theorem yX {Γ : Gh} : relW K Γ (.d .none) .non := rfl
noncomputable def zdq (i : Nat) : TEW := fun ρ O R => ∃ w, ρ[i]? = some (some w) ∧ R w O
noncomputable def wC (x : PyData) : TEW := fun _ O R => R (.d x) O
theorem K6 {i : Nat} : zn K (jY i) (zdq i) := by
  rintro Γ O H ρ σ S r Q R ⟨w, e, h⟩ k
  obtain ⟨v, e', hv⟩ := r.get e
  exact ⟨v, e', k _ _ _ _ _ (Le.refl _) S hv h⟩
theorem Zl {v : V} {x : PyData} (h : vOf x = v := by rfl) (hs : scD x = true := by rfl) : zn K (tC v) (wC x) := by
  rintro Γ O H ρ σ S r Q R hR k
  subst h
  refine k _ _ _ _ _ (Le.refl _) S ?_ hR
  cases x <;> first | rfl | simp [scD] at hs
theorem K7 {i : Int} : zn K (tC (.int i)) (wC (.int i)) := Zl
theorem K8 {i : Str} : zn K (tC (.str i)) (wC (.str i)) := Zl
theorem zbE {i : Bool} : zn K (tC (.bl i)) (wC (.bool i)) := Zl
theorem K9 : zn K (tC .non) (wC .none) := Zl
noncomputable def wOp (r : R2W) (Ta Tb : TEW) : TEW := fun ρ O R => Ta ρ O fun x O1 => Tb ρ O1 fun y O2 => r x y O2 R
theorem zbF {r : R2} {rw : R2W} {ta tb : TE} {Ta Tb : TEW} (hr : RefR K r rw) (ha : zn K ta Ta) (hb : zn K tb Tb) : zn K (tOp r ta tb) (wOp rw Ta Tb) := by
  intro Γ O H ρ σ S r0 Q R h k
  refine ha Γ O H ρ σ S r0 _ _ h fun Γ1 O1 H1 x v l1 S1 rx h1 => ?_
  refine hb Γ1 O1 H1 ρ σ S1 (r0.mono l1) _ _ h1 fun Γ2 O2 H2 y u l2 S2 ry h2 => ?_
  exact hr Γ2 O2 H2 x y v u S2 (rx.mono l2) ry _ _ h2 fun Γ3 O3 H3 w z l3 S3 rz h3 => k Γ3 O3 H3 w z ((l1.trans l2).trans l3) S3 rz h3
noncomputable def wUn (r : W → OM → WK → Prop) (Ta : TEW) : TEW := fun ρ O R => Ta ρ O fun x O1 => r x O1 R
theorem zbG {r : V → Hp → VK → Prop} {rw : W → OM → WK → Prop} {ta : TE} {Ta : TEW} (hr : RefU K r rw) (ha : zn K ta Ta) : zn K (tUn r ta) (wUn rw Ta) := by
  intro Γ O H ρ σ S r0 Q R h k
  refine ha Γ O H ρ σ S r0 _ _ h fun Γ1 O1 H1 x v l1 S1 rx h1 => ?_
  exact hr Γ1 O1 H1 x v S1 rx _ _ h1 fun Γ3 O3 H3 w z l3 S3 rz h3 => k Γ3 O3 H3 w z (l1.trans l3) S3 rz h3
noncomputable def wI0 (g : Int → Int → V) : R2W := fun x y O R => ∃ i j, x = .d (.int i) ∧ y = .d (.int j) ∧ R (ofV (g i j)) O
noncomputable def wI (C : Int → Int → Prop) (g : Int → Int → V) : R2W := fun x y O R => ∃ i j, x = .d (.int i) ∧ y = .d (.int j) ∧ C i j ∧ R (ofV (g i j)) O
theorem zdr {g : Int → Int → V} (hg : ∀ i j, scV (g i j) = true := by intro _ _; rfl) : RefR K (rI0 g) (wI0 g) := by
  rintro Γ O H x y v u S rx ry Q R ⟨i, j, rfl, rfl, h⟩ k
  exact ⟨i, j, rx, ry, k _ _ _ _ _ (Le.refl _) S (qB (hg i j)) h⟩
theorem r_I {C : Int → Int → Prop} {g : Int → Int → V} (hg : ∀ i j, scV (g i j) = true := by intro _ _; rfl) : RefR K (rI C g) (wI C g) := by
  rintro Γ O H x y v u S rx ry Q R ⟨i, j, rfl, rfl, c, h⟩ k
  exact ⟨i, j, rx, ry, c, k _ _ _ _ _ (Le.refl _) S (qB (hg i j)) h⟩
noncomputable def wU (g : Int → V) : W → OM → WK → Prop := fun x O R => ∃ i, x = .d (.int i) ∧ R (ofV (g i)) O
theorem r_U {g : Int → V} (hg : ∀ i, scV (g i) = true := by intro _; rfl) : RefU K (rU g) (wU g) := by
  rintro Γ O H x v S rx Q R ⟨i, rfl, h⟩ k
  exact ⟨i, rx, k _ _ _ _ _ (Le.refl _) S (qB (hg i)) h⟩
noncomputable def wEq : R2W := fun x y O R => ∃ a b, x = .d a ∧ y = .d b ∧ scD a = true ∧ scD b = true ∧ uV (vOf a) (vOf b) = true ∧ R (.d (.bool (decide (vOf a = vOf b)))) O
noncomputable def wNe : R2W := fun x y O R => ∃ a b, x = .d a ∧ y = .d b ∧ scD a = true ∧ scD b = true ∧ uV (vOf a) (vOf b) = true ∧ R (.d (.bool (!decide (vOf a = vOf b)))) O
theorem zds : RefR K rEq wEq := by
  rintro Γ O H x y v u S rx ry Q R ⟨a, b, rfl, rfl, sa, sb, sc, h⟩ k
  rw [ui rx sa, ui ry sb]
  exact ⟨sc, k _ _ _ _ _ (Le.refl _) S yL h⟩
theorem zdt : RefR K rNe wNe := by
  rintro Γ O H x y v u S rx ry Q R ⟨a, b, rfl, rfl, sa, sb, sc, h⟩ k
  rw [ui rx sa, ui ry sb]
  exact ⟨sc, k _ _ _ _ _ (Le.refl _) S yL h⟩
noncomputable def Va : W → Bool
  | .d .none => true
  | _ => false
noncomputable def zdu (b : Bool) : W → Bool
  | .d (.bool c) => decide (c = b)
  | _ => false
noncomputable def zdv : R2W := fun x y O R => ∃ ws i w, y = .d (.int i) ∧ zq O x = some ws ∧ atI ws i = some w ∧ R w O
noncomputable def zbH : R2W := fun x y O R => ∃ ds i e, y = .d (.int i) ∧ yp x = some ds ∧ atI ds i = some e ∧ R (.d e) O
noncomputable def zbI : R2W := fun x y O R => ∃ z i c, x = .d (.str z) ∧ y = .d (.int i) ∧ z.length ≤ sizeLine ∧ atI z.cps.toList i = some c ∧ R (.d (.str ⟨#[c]⟩)) O
theorem jz {α β : Type} {F : α → β → Prop} {xs : List α} {ys : List β} {i : Int} {x : α} (r : Paired F xs ys) (e : atI xs i = some x) : ∃ y, atI ys i = some y ∧ F x y := by
  unfold atI at e ⊢
  rw [← Paired.length r]
  cases h : ixN xs.length i with
  | none => rw [h] at e; cases e
  | some j =>
    rw [h] at e
    exact Paired.getP r e
theorem zcX : RefR K (ZJ K) zdv := by
  rintro Γ O H x y v u S rx ry Q R ⟨ws, i, w, rfl, e, h1, h⟩ k
  obtain ⟨a, vs, rfl, q1, q2⟩ := z0 S rx e
  obtain ⟨z, h2, h3⟩ := jz q2 h1
  exact ⟨a, vs, i, z, rfl, ry, q1, h2, k _ _ _ _ _ (Le.refl _) S h3 h⟩
theorem zcY : RefR K (QJ K) zbH := by
  rintro Γ O H x y v u S rx ry Q R ⟨ds, i, w, rfl, e, h1, h⟩ k
  obtain ⟨a, vs, rfl, q1, q2⟩ := xI S rx e
  have h1' : atI (ds.map W.d) i = some (.d w) := by
    unfold atI at h1 ⊢
    rw [List.length_map]
    cases hj : ixN ds.length i with
    | none => rw [hj] at h1; cases h1
    | some j =>
      rw [hj] at h1
      replace h1 : ds[j]? = some w := h1
      show (ds.map W.d)[j]? = some (.d w)
      rw [List.getElem?_map, h1]; rfl
  obtain ⟨z, h2, h3⟩ := jz q2 h1'
  exact ⟨a, vs, i, z, rfl, ry, q1, h2, k _ _ _ _ _ (Le.refl _) S h3 h⟩
theorem zcZ : RefR K zbr zbI := by
  rintro Γ O H x y v u S rx ry Q R ⟨z, i, c, rfl, rfl, hl, h1, h⟩ k
  exact ⟨z, i, c, rx, ry, hl, h1, k _ _ _ _ _ (Le.refl _) S uj h⟩
noncomputable def Q0 (T U : TTW) : TTW := fun ρ O R => T ρ O fun c O1 => if c = true then U ρ O1 R else R false O1
noncomputable def wOr (T U : TTW) : TTW := fun ρ O R => T ρ O fun c O1 => if c = true then R true O1 else U ρ O1 R
noncomputable def Q2 (T : TTW) : TTW := fun ρ O R => T ρ O fun c O1 => R (!c) O1
theorem zaa {t u : TT} {T U : TTW} (h : yK K t T) (g : yK K u U) : yK K (Qy t u) (Q0 T U) := by
  intro Γ O H ρ σ S r0 Q R hT k
  refine h Γ O H ρ σ S r0 _ _ hT fun Γ1 O1 H1 b l1 S1 h1 => ?_
  cases b with
  | true => rw [if_pos rfl] at h1 ⊢; exact g _ _ _ _ _ S1 (r0.mono l1) _ _ h1 fun Γ2 O2 H2 c l2 S2 h2 => k _ _ _ _ (l1.trans l2) S2 h2
  | false => rw [if_neg (by decide)] at h1 ⊢; exact k _ _ _ _ l1 S1 h1
theorem zbJ {t u : TT} {T U : TTW} (h : yK K t T) (g : yK K u U) : yK K (tOr t u) (wOr T U) := by
  intro Γ O H ρ σ S r0 Q R hT k
  refine h Γ O H ρ σ S r0 _ _ hT fun Γ1 O1 H1 b l1 S1 h1 => ?_
  cases b with
  | false => rw [if_neg (by decide)] at h1 ⊢; exact g _ _ _ _ _ S1 (r0.mono l1) _ _ h1 fun Γ2 O2 H2 c l2 S2 h2 => k _ _ _ _ (l1.trans l2) S2 h2
  | true => rw [if_pos rfl] at h1 ⊢; exact k _ _ _ _ l1 S1 h1
theorem zab {t : TT} {T : TTW} (h : yK K t T) : yK K (Qz t) (Q2 T) := by
  intro Γ O H ρ σ S r0 Q R hT k
  exact h Γ O H ρ σ S r0 _ _ hT fun Γ1 O1 H1 b l1 S1 h1 => k _ _ _ _ l1 S1 h1
noncomputable def J9 (Ta Tb : TEW) : TEW := fun ρ O R => Ta ρ O fun x O1 => ∃ c, x = .d (.bool c) ∧ if c = true then Tb ρ O1 R else R (.d (.bool false)) O1
noncomputable def Ka (Ta : TEW) : TEW := fun ρ O R => Ta ρ O fun x O1 => ∃ c, x = .d (.bool c) ∧ R (.d (.bool (!c))) O1
theorem Q3 {ta tb : TE} {Ta Tb : TEW} (ha : zn K ta Ta) (hb : zn K tb Tb) : zn K (XT ta tb) (J9 Ta Tb) := by
  intro Γ O H ρ σ S r0 Q R hT k
  refine ha Γ O H ρ σ S r0 _ _ hT fun Γ1 O1 H1 x v l1 S1 rx h1 => ?_
  obtain ⟨c, rfl, h1⟩ := h1
  refine ⟨c, rx, ?_⟩
  cases c with
  | true => rw [if_pos rfl] at h1 ⊢; exact hb _ _ _ _ _ S1 (r0.mono l1) _ _ h1 fun Γ2 O2 H2 y u l2 S2 ry h2 => k _ _ _ _ _ (l1.trans l2) S2 ry h2
  | false => rw [if_neg (by decide)] at h1 ⊢; exact k _ _ _ _ _ l1 S1 yL h1
theorem Q4 {ta : TE} {Ta : TEW} (ha : zn K ta Ta) : zn K (XU ta) (Ka Ta) := by
  intro Γ O H ρ σ S r0 Q R hT k
  refine ha Γ O H ρ σ S r0 _ _ hT fun Γ1 O1 H1 x v l1 S1 rx h1 => ?_
  obtain ⟨c, rfl, h1⟩ := h1
  exact ⟨c, rx, k _ _ _ _ _ l1 S1 yL h1⟩
noncomputable def wIf (T : TTW) (Ta Tb : TEW) : TEW := fun ρ O R => T ρ O fun c O1 => if c = true then Ta ρ O1 R else Tb ρ O1 R
theorem zbK {t : TT} {T : TTW} {ta tb : TE} {Ta Tb : TEW} (h : yK K t T) (ha : zn K ta Ta) (hb : zn K tb Tb) : zn K (tIf t ta tb) (wIf T Ta Tb) := by
  intro Γ O H ρ σ S r0 Q R hT k
  refine h Γ O H ρ σ S r0 _ _ hT fun Γ1 O1 H1 b l1 S1 h1 => ?_
  cases b with
  | true => rw [if_pos rfl] at h1 ⊢; exact ha _ _ _ _ _ S1 (r0.mono l1) _ _ h1 fun Γ2 O2 H2 y u l2 S2 ry h2 => k _ _ _ _ _ (l1.trans l2) S2 ry h2
  | false => rw [if_neg (by decide)] at h1 ⊢; exact hb _ _ _ _ _ S1 (r0.mono l1) _ _ h1 fun Γ2 O2 H2 y u l2 S2 ry h2 => k _ _ _ _ _ (l1.trans l2) S2 ry h2
noncomputable def Vb (O : OM) : W → Option Bool
  | .d .none => some false
  | .d (.bool b) => some b
  | .d (.int i) => some (i != 0)
  | .d (.str z) => some (z.length != 0)
  | .d (.list ds) => some (!ds.isEmpty)
  | .d (.tuple ds) => some (!ds.isEmpty)
  | .own a => match O a with
    | some (.lst ws) => some (!ws.isEmpty)
    | some (.dK kvs) => some (!kvs.isEmpty)
    | _ => none
  | _ => none
noncomputable def ZU : W → Prop
  | .d (.str z) => z.length ≤ sizeLine
  | _ => True
theorem yY {α β : Type} {F : α → β → Prop} {xs : List α} {ys : List β} (r : Paired F xs ys) : xs.isEmpty = ys.isEmpty := by cases r <;> rfl
theorem Q5 {Γ : Gh} {O : OM} {H : Hp} {w : W} {v : V} {b : Bool} (S : Sim K Γ O H) (r : relW K Γ w v) (e : Vb O w = some b) (hs : ZU w) : ZF K v H b := by
  cases w with
  | d x =>
    cases x with
    | none => rw [show v = .non from r]; cases e; rfl
    | bool i => rw [show v = .bl i from r]; cases e; rfl
    | int i => rw [show v = .int i from r]; cases e; rfl
    | str z =>
      rw [show v = .str z from r]; cases e
      refine ⟨hs, ?_⟩
      show (z.length != 0) = ((z.length : Int) != 0)
      cases hz : z.length with
      | zero => rfl
      | succ n => simp only [bne, Nat.beq_eq_true_eq]; simp; omega
    | list ds =>
      cases e
      obtain ⟨a, xs, rfl, h1, h2⟩ := r
      refine .inl ⟨xs, h1.same S.z, ?_⟩
      rw [← yY (zK h2 : relWs K Γ _ _)]
      simp
    | tuple ds =>
      cases e
      obtain ⟨a, xs, rfl, h1, h2⟩ := r
      refine .inr (.inl ⟨xs, h1.same S.z, ?_⟩)
      rw [← yY (zK h2 : relWs K Γ _ _)]
      simp
    | dict _ => cases e
  | own a =>
    cases (show v = .ref a from r)
    simp only [Vb] at e
    split at e
    · rename_i ws h
      cases e
      obtain ⟨_, vs, h1, h2⟩ := S.o _ _ h
      exact .inl ⟨vs, SqL.of h1, by rw [yY h2]⟩
    · rename_i kvs h
      cases e
      obtain ⟨_, vs, h1, h2⟩ := S.o _ _ h
      exact .inr (.inr ⟨vs, h1, by rw [yY h2]⟩)
    · cases e
  | row a i => cases e
noncomputable def Q6 (T : TEW) : TTW := fun ρ O R => T ρ O fun x O1 => ∃ b, Vb O1 x = some b ∧ ZU x ∧ R b O1
theorem zac {t : TE} {T : TEW} (h : zn K t T) : yK K (fun σ H Q => t σ H fun x H' => ∃ k, ZF K x H' k ∧ Q k H') (Q6 T) := by
  intro Γ O H ρ σ S r0 Q R hT k
  refine h Γ O H ρ σ S r0 _ _ hT fun Γ1 O1 H1 x v l1 S1 rx h1 => ?_
  obtain ⟨c, e, hs, h1⟩ := h1
  exact ⟨c, Q5 S1 rx e hs, k _ _ _ _ l1 S1 h1⟩
noncomputable def Vc : TAW := fun _ O R => R [] O
noncomputable def Zm (Ta : TEW) (Tr : TAW) : TAW := fun ρ O R => Ta ρ O fun x O1 => Tr ρ O1 fun xs O2 => R (x :: xs) O2
theorem zad : yC K uW Vc := fun Γ O H ρ σ S r0 Q R h k => k _ _ _ _ _ (Le.refl _) S .nil h
theorem Q7 {ta : TE} {t : TA} {Ta : TEW} {T : TAW} (ha : zn K ta Ta) (hr : yC K t T) : yC K (xu ta t) (Zm Ta T) := by
  intro Γ O H ρ σ S r0 Q R h k
  refine ha Γ O H ρ σ S r0 _ _ h fun Γ1 O1 H1 x v l1 S1 rx h1 => ?_
  exact hr Γ1 O1 H1 ρ σ S1 (r0.mono l1) _ _ h1 fun Γ2 O2 H2 ws vs l2 S2 rs h2 => k _ _ _ _ _ (l1.trans l2) S2 (.cons (rx.mono l2) rs) h2
noncomputable def zbL (T : TAW) : TEW := fun ρ O R => T ρ O fun ws O1 => ∃ ds, zX ws = some ds ∧ ds.length ≤ 1000 ∧ R (.d (.tuple ds)) O1
noncomputable def zbM (T : TAW) : TEW := fun ρ O R => T ρ O fun ws O1 => ∃ ds, zX ws = some ds ∧ ds.length ≤ 1000 ∧ R (.d (.list ds)) O1
theorem qC {n : Nat} (h : n ≤ 1000) : n ≤ sizeLine := Nat.le_of_lt (xj h)
theorem uk {Γ : Gh} {O : OM} {H : Hp} {ds : List PyData} {vs : List V} {p : Addr} (S : Sim K Γ O H) (hr : Reps K Γ.Z ds vs) (hp : H p = none) : ∃ Γ', Le Γ Γ' ∧ Sim K Γ' O (upd H p (.tup vs)) ∧ relW K Γ' (.d (.tuple ds)) (.ref p) := by
  obtain ⟨l, S'⟩ := S.newD hp (.tup vs)
  exact ⟨_, l, S', p, vs, rfl, SqT.of zg, Reps.same l.z _ _ hr⟩
theorem u4 {Γ : Gh} {O : OM} {H : Hp} {ds : List PyData} {vs : List V} {p : Addr} (S : Sim K Γ O H) (hr : Reps K Γ.Z ds vs) (hp : H p = none) : ∃ Γ', Le Γ Γ' ∧ Sim K Γ' O (upd H p (.lst vs)) ∧ relW K Γ' (.d (.list ds)) (.ref p) := by
  obtain ⟨l, S'⟩ := S.newD hp (.lst vs)
  exact ⟨_, l, S', p, vs, rfl, SqL.of zg, Reps.same l.z _ _ hr⟩
theorem qD {Γ : Gh} {O : OM} {H : Hp} {ws : List W} {vs : List V} {p : Addr} (S : Sim K Γ O H) (hr : relWs K Γ ws vs) (hp : H p = none) : O p = none ∧ Sim K Γ (updO O p (.lst ws)) (upd H p (.lst vs)) :=
  ⟨(S.free hp).2.1, S.newO hp (by intro _ h; cases h) ⟨vs, zg, hr⟩⟩
theorem zae {t : TA} {T : TAW} (h : yC K t T) : zn K (X5 t) (zbL T) := by
  intro Γ O H ρ σ S r0 Q R hT k
  refine h Γ O H ρ σ S r0 _ _ hT fun Γ1 O1 H1 ws vs l1 S1 rs h1 => ?_
  obtain ⟨ds, e, hl, h1⟩ := h1
  rw [yc e] at rs
  refine ⟨by rw [← Paired.length rs, List.length_map]; exact qC hl, fun p hp => ?_⟩
  obtain ⟨Γ', l, S', r'⟩ := uk S1 (zt rs) hp
  exact k _ _ _ _ _ (l1.trans l) S' r' h1
theorem zaf {t : TA} {T : TAW} (h : yC K t T) : zn K (ZH t) (zbM T) := by
  intro Γ O H ρ σ S r0 Q R hT k
  refine h Γ O H ρ σ S r0 _ _ hT fun Γ1 O1 H1 ws vs l1 S1 rs h1 => ?_
  obtain ⟨ds, e, hl, h1⟩ := h1
  rw [yc e] at rs
  refine ⟨by rw [← Paired.length rs, List.length_map]; exact qC hl, fun p hp => ?_⟩
  obtain ⟨Γ', l, S', r'⟩ := u4 S1 (zt rs) hp
  exact k _ _ _ _ _ (l1.trans l) S' r' h1
end
end L2
namespace L2
open PySem PySem.Spec PyProof.Rows
noncomputable abbrev SpW := List W → OM → WK → Prop
noncomputable def zb (K : PySem.W.Frag) (s : SpW) : Sp := fun vs H Q _ => ∃ Γ O ws R, Sim K Γ O H ∧ relWs K Γ ws vs ∧ s ws O R ∧ ∀ Γ' O' H' w v, Le Γ Γ' → Sim K Γ' O' H' → relW K Γ' w v → R w O' → Q v H'
noncomputable def Clo (R : WK) : WK := fun w O => R w O ∨ ∃ a ds, w = .own a ∧ O a = some (.lst (ds.map .d)) ∧ R (.d (.list ds)) (del O a)
noncomputable def yT (N : List Str) (ws : List W) : WS := ws.map some ++ List.replicate (N.length - ws.length) none
section
variable {K : PySem.W.Frag}
theorem xx {Γ : Gh} {N : List Str} {ws : List W} {vs : List V} (h : relWs K Γ ws vs) : relR K Γ (yT N ws) (L2.start N vs) := by
  unfold yT L2.start
  rw [Paired.length h]
  refine Paired.appP ?_ ?_
  · induction h with
    | nil => exact .nil
    | cons a b ih => exact .cons a ih
  · generalize N.length - vs.length = n
    induction n with
    | zero => exact .nil
    | succ n ih => exact .cons trivial ih
theorem xo {Γ : Gh} {O : OM} {H : Hp} {w : W} {v : V} {R : WK} {Q : VK} (S : Sim K Γ O H) (r : relW K Γ w v) (h : Clo R w O) (k : ∀ Γ' O' H' w v, Le Γ Γ' → Sim K Γ' O' H' → relW K Γ' w v → R w O' → Q v H') : Q v H := by
  rcases h with h | ⟨a, ds, rfl, e, h⟩
  · exact k _ _ _ _ _ (Le.refl _) S r h
  · obtain ⟨Γ', l, S', r'⟩ := S.freeze e
    cases (show v = .ref a from r)
    exact k _ _ _ _ _ l S' r' h
variable {P : Program} {w : World} {mg : Str → Option Value} {base : Heap}
theorem Fun.okW {x qual : Str} {st : Stmt} {f : Addr} {fd : FuncData} {N ps : List Str} {k : Nat} {s : SpW} (F : Fun K x qual st f fd) (S : FnScope N ps (defScope st)) (len : ∀ ws O R, s ws O R → ws.length = ps.length)
    (hbody : ∀ (cdv : Value) (A : Around) (outer : List Env) (sh : Shared) (H : Hp) (E : XK), Room k (A.deeper (envOfC qual (defScope st) sh.heap.objs.size f cdv)) →
      ∃ t T, PSs (y6 CX0 P w K mg base N qual (defScope st) f cdv A outer sh H E).nox (defBody st) t ∧ RefS K t T ∧ ∀ ws O R, s ws O R → T { nx := fun _ O' => Clo R (.d .none) O', rt := Clo R } (yT N ws) O) : FnOk P w K mg base CX0 (k + 1) f fd ps (zb K s) := by
  refine F.ok S (fun vs H Q E h => ?_) (fun cdv A outer sh H vs Q E hr h => ?_)
  · obtain ⟨Γ, O, ws, R, S1, r, hs, _⟩ := h
    rw [← Paired.length r]
    exact len ws O R hs
  · obtain ⟨t, T, h1, h2, h3⟩ := hbody cdv A outer sh H E hr
    obtain ⟨Γ, O, ws, R, S1, r, hs, kk⟩ := h
    refine ⟨t, h1, h2 Γ O H _ _ _ _ S1 (xx r) (h3 ws O R hs) ⟨fun Γ' O' H' ρ' σ' l S' r' h' => ?_, fun Γ' O' H' w v l S' r' h' => ?_, fun _ _ _ _ _ _ _ _ h => h.elim, fun _ _ _ _ _ _ _ _ h => h.elim⟩⟩
    · exact xo S' yX h' fun Γ2 O2 H2 w v l2 => kk _ _ _ _ _ (l.trans l2)
    · exact xo S' r' h' fun Γ2 O2 H2 w v l2 => kk _ _ _ _ _ (l.trans l2)
theorem Fun.okV {x qual : Str} {st : Stmt} {f : Addr} {fd : FuncData} {N ps : List Str} {k : Nat} {s : SpW} {t : TS} {T : TSW} (F : Fun K x qual st f fd) (S : FnScope N ps (defScope st)) (len : ∀ ws O R, s ws O R → ws.length = ps.length)
    (hP : ∀ (cdv : Value) (A : Around) (outer : List Env) (sh : Shared) (H : Hp) (E : XK), Room k (A.deeper (envOfC qual (defScope st) sh.heap.objs.size f cdv)) → PSs (y6 CX0 P w K mg base N qual (defScope st) f cdv A outer sh H E).nox (defBody st) t)
    (hR : RefS K t T) (hb : ∀ ws O R, s ws O R → T { nx := fun _ O' => Clo R (.d .none) O', rt := Clo R } (yT N ws) O) : FnOk P w K mg base CX0 (k + 1) f fd ps (zb K s) :=
  F.okW S len fun cdv A outer sh H E hr => ⟨t, T, hP cdv A outer sh H E hr, hR, hb⟩
theorem FunD.okW {x qual : Str} {st : Stmt} {ds : List Value} {f : Addr} {fd : FuncData} {N ps : List Str} {k : Nat} {s : SpW} (F : FunD K x qual st ds f fd) (S : FnScope N ps (defScope st)) (len : ∀ ws O R, s ws O R → ws.length = ps.length)
    (hbody : ∀ (cdv : Value) (A : Around) (outer : List Env) (sh : Shared) (H : Hp) (E : XK), Room k (A.deeper (envOfC qual (defScope st) sh.heap.objs.size f cdv)) →
      ∃ t T, PSs (y6 CX0 P w K mg base N qual (defScope st) f cdv A outer sh H E).nox (defBody st) t ∧ RefS K t T ∧ ∀ ws O R, s ws O R → T { nx := fun _ O' => Clo R (.d .none) O', rt := Clo R } (yT N ws) O) : FnOk P w K mg base CX0 (k + 1) f fd ps (zb K s) := by
  refine F.ok S (fun vs H Q E h => ?_) (fun cdv A outer sh H vs Q E hr h => ?_)
  · obtain ⟨Γ, O, ws, R, S1, r, hs, _⟩ := h
    rw [← Paired.length r]
    exact len ws O R hs
  · obtain ⟨t, T, h1, h2, h3⟩ := hbody cdv A outer sh H E hr
    obtain ⟨Γ, O, ws, R, S1, r, hs, kk⟩ := h
    refine ⟨t, h1, h2 Γ O H _ _ _ _ S1 (xx r) (h3 ws O R hs) ⟨fun Γ' O' H' ρ' σ' l S' r' h' => ?_, fun Γ' O' H' w v l S' r' h' => ?_, fun _ _ _ _ _ _ _ _ h => h.elim, fun _ _ _ _ _ _ _ _ h => h.elim⟩⟩
    · exact xo S' yX h' fun Γ2 O2 H2 w v l2 => kk _ _ _ _ _ (l.trans l2)
    · exact xo S' r' h' fun Γ2 O2 H2 w v l2 => kk _ _ _ _ _ (l.trans l2)
theorem FunD.okV {x qual : Str} {st : Stmt} {ds : List Value} {f : Addr} {fd : FuncData} {N ps : List Str} {k : Nat} {s : SpW} {t : TS} {T : TSW} (F : FunD K x qual st ds f fd) (S : FnScope N ps (defScope st)) (len : ∀ ws O R, s ws O R → ws.length = ps.length)
    (hP : ∀ (cdv : Value) (A : Around) (outer : List Env) (sh : Shared) (H : Hp) (E : XK), Room k (A.deeper (envOfC qual (defScope st) sh.heap.objs.size f cdv)) → PSs (y6 CX0 P w K mg base N qual (defScope st) f cdv A outer sh H E).nox (defBody st) t)
    (hR : RefS K t T) (hb : ∀ ws O R, s ws O R → T { nx := fun _ O' => Clo R (.d .none) O', rt := Clo R } (yT N ws) O) : FnOk P w K mg base CX0 (k + 1) f fd ps (zb K s) :=
  F.okW S len fun cdv A outer sh H E hr => ⟨t, T, hP cdv A outer sh H E hr, hR, hb⟩
end
section
variable {K : PySem.W.Frag}
theorem uy {Γ : Gh} : ∀ {vs : List V}, vs.all scV = true → relWs K Γ (vs.map ofV) vs
  | [], _ => .nil
  | v :: vs, h => by
    simp at h
    exact .cons (qB h.1) (uy (by simpa using h.2))
noncomputable def Zn (s : SpW) (dvs : List V) (T : TAW) : TEW := fun ρ O R => T ρ O fun ws O1 => s (ws ++ dvs.map ofV) O1 R
theorem Q8 {s : SpW} {dvs : List V} {t : TA} {T : TAW} (h : yC K t T) (hd : dvs.all scV = true := by rfl) : zn K (xv (zb K s) dvs E0 t) (Zn s dvs T) := by
  intro Γ O H ρ σ S r0 Q R hT k
  refine h Γ O H ρ σ S r0 _ _ hT fun Γ1 O1 H1 ws vs l1 S1 rs h1 => ?_
  exact ⟨Γ1, O1, _, R, S1, Paired.appP rs (uy hd), h1, fun Γ2 O2 H2 w v l2 S2 r2 h2 => k _ _ _ _ _ (l1.trans l2) S2 r2 h2⟩
noncomputable def wCB (r : List W → OM → WK → Prop) (T : TAW) : TEW := fun ρ O R => T ρ O fun ws O1 => r ws O1 R
theorem zbN {r : List V → Hp → VK → Prop} {rw : List W → OM → WK → Prop} {t : TA} {T : TAW} (hr : RefC K r rw) (h : yC K t T) : zn K (tCB r t) (wCB rw T) := by
  intro Γ O H ρ σ S r0 Q R hT k
  refine h Γ O H ρ σ S r0 _ _ hT fun Γ1 O1 H1 ws vs l1 S1 rs h1 => ?_
  exact hr _ _ _ _ _ S1 rs _ _ h1 fun Γ2 O2 H2 w v l2 S2 r2 h2 => k _ _ _ _ _ (l1.trans l2) S2 r2 h2
noncomputable def vC (O : OM) (w : W) : Option (List PyData) := match yp w with
  | some ds => some ds
  | none => (zq O w).bind zX
theorem Xq {Γ : Gh} {O : OM} {H : Hp} {w : W} {v : V} {ds : List PyData} (S : Sim K Γ O H) (r : relW K Γ w v) (e : vC O w = some ds) : ∃ a vs, v = .ref a ∧ (SqL K H a vs ∨ SqT K H a vs) ∧ Reps K Γ.Z ds vs := by
  unfold vC at e
  split at e
  · rename_i es h
    cases e
    obtain ⟨a, vs, e1, h1, h2⟩ := xI S r h
    exact ⟨a, vs, e1, .inr h1, zt h2⟩
  · cases h : zq O w with
    | none => rw [h] at e; cases e
    | some ws =>
      rw [h] at e
      obtain ⟨a, vs, e1, h1, h2⟩ := z0 S r h
      rw [yc (show zX ws = some ds from e)] at h2
      exact ⟨a, vs, e1, .inl h1, zt h2⟩
noncomputable def y7 (O : OM) (w : W) : Option Nat := match yp w with
  | some ds => some ds.length
  | none => (zq O w).map (·.length)
noncomputable def Q9 : List W → OM → WK → Prop := fun xs O R => ∃ w n, xs = [w] ∧ y7 O w = some n ∧ R (.d (.int n)) O
theorem zc0 : RefC K (fun xs H Q => ∃ p ys, xs = [.ref p] ∧ (SqL K H p ys ∨ SqT K H p ys) ∧ Q (.int ys.length) H) Q9 := by
  rintro Γ O H xs vs S rs Q R ⟨w, n, rfl, e, h⟩ k
  cases rs with
  | cons rx t =>
    cases t
    unfold y7 at e
    split at e
    · rename_i ds hT
      cases e
      obtain ⟨a, vs, e1, h1, h2⟩ := xI S rx hT
      subst e1
      refine ⟨a, vs, rfl, .inr h1, k _ _ _ _ _ (Le.refl _) S ?_ h⟩
      rw [← Paired.length h2, List.length_map]; rfl
    · cases hL : zq O w with
      | none => rw [hL] at e; cases e
      | some ws =>
        rw [hL] at e
        cases e
        obtain ⟨a, vs, e1, h1, h2⟩ := z0 S rx hL
        subst e1
        refine ⟨a, vs, rfl, .inl h1, k _ _ _ _ _ (Le.refl _) S ?_ h⟩
        rw [← Paired.length h2]; rfl
noncomputable def Kb : List W → OM → WK → Prop := fun xs O R => ∃ z, xs = [.d (.str z)] ∧ z.length ≤ sizeLine ∧ R (.d (.int z.length)) O
theorem zbO : RefC K (fun xs H Q => ∃ z, xs = [.str z] ∧ z.length ≤ sizeLine ∧ Q (.int z.length) H) Kb := by
  rintro Γ O H xs vs S rs Q R ⟨z, rfl, e, h⟩ k
  cases rs with
  | cons rx t =>
    cases t
    exact ⟨z, by rw [show _ = V.str z from rx], e, k _ _ _ _ _ (Le.refl _) S xn h⟩
noncomputable def ZV : List W → OM → WK → Prop := fun xs O R => ∃ w ds, xs = [w] ∧ vC O w = some ds ∧ ∀ p, O p = none → R (.own p) (updO O p (.lst (ds.map .d)))
theorem zag : RefC K (fun xs H Q => ∃ p ys, xs = [.ref p] ∧ (SqL K H p ys ∨ SqT K H p ys) ∧ ∀ l, H l = none → Q (.ref l) (upd H l (.lst ys))) ZV := by
  rintro Γ O H xs vs S rs Q R ⟨w, ds, rfl, e, h⟩ k
  cases rs with
  | cons rx t =>
    cases t
    obtain ⟨a, vs, e1, h1, h2⟩ := Xq S rx e
    subst e1
    refine ⟨a, vs, rfl, h1, fun l hl => ?_⟩
    obtain ⟨hO, S'⟩ := qD S (zK h2) hl
    exact k _ _ _ _ _ (Le.refl _) S' xJ (h l hO)
noncomputable def ZW : List W → OM → WK → Prop := fun xs O R => ∃ w ds, xs = [w] ∧ vC O w = some ds ∧ R (.d (.tuple ds)) O
theorem zah : RefC K (fun xs H Q => ∃ p ys, xs = [.ref p] ∧ ((SqL K H p ys ∧ ∀ l, H l = none → Q (.ref l) (upd H l (.tup ys))) ∨ (SqT K H p ys ∧ Q (.ref p) H))) ZW := by
  rintro Γ O H xs vs S rs Q R ⟨w, ds, rfl, e, h⟩ k
  cases rs with
  | cons rx t =>
    cases t
    unfold vC at e
    split at e
    · rename_i es hT
      cases e
      obtain ⟨a, vs, e1, h1, h2⟩ := xI S rx hT
      subst e1
      refine ⟨a, vs, rfl, .inr ⟨h1, k _ _ _ _ _ (Le.refl _) S ?_ h⟩⟩
      cases w with
      | d x => cases x <;> simp [yp] at hT; subst hT; exact rx
      | own b => cases hT
      | row b i => cases hT
    · cases hL : zq O w with
      | none => rw [hL] at e; cases e
      | some ws =>
        rw [hL] at e
        obtain ⟨a, vs, e1, h1, h2⟩ := z0 S rx hL
        rw [yc (show zX ws = some ds from e)] at h2
        subst e1
        refine ⟨a, vs, rfl, .inl ⟨h1, fun l hl => ?_⟩⟩
        obtain ⟨Γ', le, S', r'⟩ := uk S (zt h2) hl
        exact k _ _ _ _ _ le S' r' h
noncomputable def wI2 (g : Int → Int → Int) : List W → OM → WK → Prop := fun xs O R => ∃ i j, xs = [.d (.int i), .d (.int j)] ∧ R (.d (.int (g i j))) O
theorem zdw {g : Int → Int → Int} : RefC K (fun xs H Q => ∃ i j, xs = [.int i, .int j] ∧ Q (.int (g i j)) H) (wI2 g) := by
  rintro Γ O H xs vs S rs Q R ⟨i, j, rfl, h⟩ k
  cases rs with
  | cons rx t =>
    cases t with
    | cons ry t =>
      cases t
      exact ⟨i, j, by rw [show _ = V.int i from rx, show _ = V.int j from ry], k _ _ _ _ _ (Le.refl _) S xn h⟩
noncomputable def Kc : List W → OM → WK → Prop := fun xs O R => ∃ i, (xs = [.d (.int i)] ∨ ∃ b : Bool, xs = [.d (.bool b)] ∧ i = if b then 1 else 0) ∧ R (.d (.int i)) O
theorem zbP : RefC K (fun xs H Q => (∃ i, xs = [.int i] ∧ Q (.int i) H) ∨ ∃ k, xs = [.bl k] ∧ Q (.int (if k then 1 else 0)) H) Kc := by
  rintro Γ O H xs vs S rs Q R ⟨i, hx, h⟩ k
  rcases hx with rfl | ⟨b, rfl, rfl⟩
  · cases rs with
    | cons rx t => cases t; exact .inl ⟨i, by rw [show _ = V.int i from rx], k _ _ _ _ _ (Le.refl _) S xn h⟩
  · cases rs with
    | cons rx t => cases t; exact .inr ⟨b, by rw [show _ = V.bl b from rx], k _ _ _ _ _ (Le.refl _) S xn h⟩
noncomputable def Zo : TSW := fun D ρ O => D.nx ρ O
noncomputable def xK (T U : TSW) : TSW := fun D ρ O => T { D with nx := U D } ρ O
noncomputable def jA (T : TEW) : TSW := fun D ρ O => T ρ O fun _ O1 => D.nx ρ O1
noncomputable def Vd (T : TEW) : TSW := fun D ρ O => T ρ O D.rt
noncomputable def zc1 : TSW := fun D _ O => D.rt (.d .none) O
noncomputable def ZX (c : TTW) (T U : TSW) : TSW := fun D ρ O => c ρ O fun b O1 => if b = true then T D ρ O1 else U D ρ O1
theorem Ja : RefS K XV Zo := fun Γ O H ρ σ D DW S r h e => e.nx _ _ _ _ _ (Le.refl _) S r h
theorem zai {t u : TS} {T U : TSW} (h : RefS K t T) (g : RefS K u U) : RefS K (jZ t u) (xK T U) := fun Γ O H ρ σ D DW S r hT e =>
  h Γ O H ρ σ { D with nx := u D } { DW with nx := U DW } S r hT ⟨fun Γ' O' H' ρ' σ' l S' r' h' => g _ _ _ _ _ _ _ S' r' h' (e.mono l), e.rt, e.bk, e.ct⟩
theorem Jb {t : TE} {T : TEW} (h : zn K t T) : RefS K (jq t) (jA T) := fun Γ O H ρ σ D DW S r hT e =>
  h _ _ _ _ _ S r _ _ hT fun Γ1 O1 H1 w v l S1 r1 h1 => e.nx _ _ _ _ _ l S1 (r.mono l) h1
theorem zaj {t : TE} {T : TEW} (h : zn K t T) : RefS K (Zz t) (Vd T) := fun Γ O H ρ σ D DW S r hT e =>
  h _ _ _ _ _ S r _ _ hT fun Γ1 O1 H1 w v l S1 r1 h1 => e.rt _ _ _ _ _ l S1 r1 h1
theorem zak {c : TT} {C : TTW} {t u : TS} {T U : TSW} (hc : yK K c C) (h : RefS K t T) (g : RefS K u U) : RefS K (XW c t u) (ZX C T U) := fun Γ O H ρ σ D DW S r hT e => by
  refine hc _ _ _ _ _ S r _ _ hT fun Γ1 O1 H1 b l S1 h1 => ?_
  cases b with
  | true => rw [if_pos rfl] at h1 ⊢; exact h _ _ _ _ _ _ _ S1 (r.mono l) h1 (e.mono l)
  | false => rw [if_neg (by decide)] at h1 ⊢; exact g _ _ _ _ _ _ _ S1 (r.mono l) h1 (e.mono l)
noncomputable def Jc (T : TEW) (G : TGW) : TSW := fun D ρ O => T ρ O fun x O1 => G x ρ O1 D.nx
theorem zal {t : TE} {T : TEW} {g : TG} {G : TGW} (h : zn K t T) (hg : RefG K g G) : RefS K (qU t g) (Jc T G) := fun Γ O H ρ σ D DW S r hT e =>
  h _ _ _ _ _ S r _ _ hT fun Γ1 O1 H1 w v l S1 r1 h1 => hg _ _ _ _ _ _ _ S1 (r.mono l) r1 _ _ h1 fun Γ2 O2 H2 ρ2 σ2 l2 => e.nx _ _ _ _ _ (l.trans l2)
noncomputable def xy (i : Nat) : TGW := fun w ρ O R => R (ρ.set i (some w)) O
theorem Jd {i : Nat} : RefG K (vQ i) (xy i) := fun Γ O H ρ σ w v S r rw Q R h k => k _ _ _ _ _ (Le.refl _) S (Paired.setP r (show qA K Γ (some w) (some v) from rw)) h
noncomputable def zbQ : TGsW := fun ds ρ O R => ds = [] ∧ R ρ O
noncomputable def Kd (G : TGW) (U : TGsW) : TGsW := fun ds ρ O R => ∃ e es, ds = e :: es ∧ G (.d e) ρ O fun ρ' O' => U es ρ' O' R
theorem Je : RefGs K zbg zbQ := by
  rintro Γ O H ρ σ ds vs S r rs Q R ⟨rfl, h⟩ k
  exact ⟨rs, k _ _ _ _ _ (Le.refl _) S r h⟩
theorem UB {t : TG} {u : TGs} {G : TGW} {U : TGsW} (h : RefG K t G) (g : RefGs K u U) : RefGs K (JT t u) (Kd G U) := by
  rintro Γ O H ρ σ ds vs S r rs Q R ⟨e, es, rfl, hh⟩ k
  obtain ⟨x, xs, rfl, h1, h2⟩ := rs
  refine ⟨x, xs, rfl, h _ _ _ _ _ _ _ S r (J8 h1) _ _ hh fun Γ1 O1 H1 ρ1 σ1 l1 S1 r1 q1 => ?_⟩
  exact g _ _ _ _ _ _ _ S1 r1 (Reps.same l1.z _ _ h2) _ _ q1 fun Γ2 O2 H2 ρ2 σ2 l2 => k _ _ _ _ _ (l1.trans l2)
noncomputable def zbR (n : Nat) (U : TGsW) : TGW := fun w ρ O R => ∃ ds, yp w = some ds ∧ ds.length = n ∧ U ds ρ O R
theorem Jf {n : Nat} {t : TGs} {U : TGsW} (h : RefGs K t U) : RefG K (QC K n t) (zbR n U) := by
  rintro Γ O H ρ σ w v S r rw Q R ⟨ds, e, hl, hh⟩ k
  obtain ⟨a, vs, e1, h1, h2⟩ := xI S rw e
  refine ⟨a, vs, e1, h1, by rw [← Paired.length h2, List.length_map]; exact hl, h _ _ _ _ _ _ _ S r (zt h2) _ _ hh k⟩
end
end L2
namespace L2
open PySem PySem.Spec PyProof.Rows
section
variable {K : PySem.W.Frag}
noncomputable def zbS (K : PySem.W.Frag) (Γ : Gh) (J : It) (ws : List W) (keep : OM → Prop) : Prop := ∀ i Γ' O' H', Same Γ.Z Γ'.Z → (∀ a rs, Γ.G a = some rs → ∃ more, Γ'.G a = some (rs ++ more)) → Sim K Γ' O' H' → keep O' →
  (∀ w, ws[i]? = some w → J.go i H' ∧ ∀ x H2, J.yld i H' x H2 → ∃ Γ2, Le Γ' Γ2 ∧ Sim K Γ2 O' H2 ∧ relW K Γ2 w x) ∧ (i = ws.length → J.stop i H')
noncomputable abbrev TIW := WS → OM → (List W → (OM → Prop) → OM → Prop) → Prop
noncomputable def v7 (K : PySem.W.Frag) (t : TI) (T : TIW) : Prop := ∀ Γ O H ρ σ, Sim K Γ O H → relR K Γ ρ σ → ∀ (Q : It → Hp → Prop) (R : List W → (OM → Prop) → OM → Prop), T ρ O R → (∀ Γ' O' H' J ws keep, Le Γ Γ' → Sim K Γ' O' H' → zbS K Γ' J ws keep → R ws keep O' → Q J H') → t σ H Q
theorem relW.up {Γ Γ' : Gh} (hz : Same Γ.Z Γ'.Z) (hg : ∀ a rs, Γ.G a = some rs → ∃ more, Γ'.G a = some (rs ++ more)) {w : W} {v : V} (h : relW K Γ w v) : relW K Γ' w v := by
  have h1 : relW K ⟨Γ'.Z, Γ'.G, Γ.F⟩ w v := relW.mono (Γ := Γ) (Γ' := ⟨Γ'.Z, Γ'.G, Γ.F⟩) ⟨rfl, hz, hg⟩ h
  cases w <;> exact h1
noncomputable def Ke (T : TEW) : TIW := fun ρ O R => T ρ O fun w O1 => ∃ ws, zq O1 w = some ws ∧ R ws (fun O' => zq O' w = some ws) O1
theorem UC {t : TE} {T : TEW} (h : zn K t T) : v7 K (X0 K t) (Ke T) := by
  intro Γ O H ρ σ S r Q R hT k
  refine h _ _ _ _ _ S r _ _ hT fun Γ1 O1 H1 w v l1 S1 r1 h1 => ?_
  obtain ⟨ws, e, h1⟩ := h1
  obtain ⟨a, vs, rfl, q1, q2⟩ := z0 S1 r1 e
  refine ⟨a, rfl, ⟨vs, q1⟩, k _ _ _ _ _ _ l1 S1 (fun i Γ' O' H' hz hg S' e' => ?_) h1⟩
  obtain ⟨a', vs', ea, q1', q2'⟩ := z0 S' (r1.up hz hg) e'
  cases ea
  refine ⟨fun w' hw => ?_, fun hi => ⟨vs', q1', by rw [← Paired.length q2', hi]; exact Nat.le_refl _⟩⟩
  obtain ⟨x, hx, rx⟩ := Paired.getP q2' hw
  refine ⟨⟨vs', x, q1', hx⟩, fun y H2 ⟨e2, hy⟩ => ?_⟩
  subst e2
  have := hy vs' q1'
  rw [hx] at this
  cases this
  exact ⟨Γ', Le.refl _, S', rx⟩
noncomputable def zbT (T : TEW) : TIW := fun ρ O R => T ρ O fun w O1 => ∃ ds, yp w = some ds ∧ R (ds.map .d) (fun _ => True) O1
theorem Jg {t : TE} {T : TEW} (h : zn K t T) : v7 K (QD K t) (zbT T) := by
  intro Γ O H ρ σ S r Q R hT k
  refine h _ _ _ _ _ S r _ _ hT fun Γ1 O1 H1 w v l1 S1 r1 h1 => ?_
  obtain ⟨ds, e, h1⟩ := h1
  obtain ⟨a, vs, rfl, q1, q2⟩ := xI S1 r1 e
  refine ⟨a, rfl, ⟨vs, q1⟩, k _ _ _ _ _ _ l1 S1 (fun i Γ' O' H' hz hg S' e' => ?_) h1⟩
  obtain ⟨a', vs', ea, q1', q2'⟩ := xI S' (r1.up hz hg) e
  cases ea
  refine ⟨fun w' hw => ?_, fun hi => ⟨vs', q1', by rw [← Paired.length q2', hi]; exact Nat.le_refl _⟩⟩
  obtain ⟨x, hx, rx⟩ := Paired.getP q2' hw
  refine ⟨⟨vs', x, q1', hx⟩, fun y H2 ⟨e2, hy⟩ => ?_⟩
  subst e2
  have := hy vs' q1'
  rw [hx] at this
  cases this
  exact ⟨Γ', Le.refl _, S', rx⟩
theorem UD {Γ : Gh} {n : Nat} {f : Nat → Int} {J : It} (hgo : ∀ i H, i < n → J.go i H) (hy : ∀ i H x H', J.yld i H x H' → H' = H ∧ x = .int (f i)) (hs : ∀ i H, n ≤ i → J.stop i H) : zbS K Γ J ((List.range n).map fun i => .d (.int (f i))) fun _ => True := by
  intro i Γ' O' H' hz hg S' _
  refine ⟨fun w hw => ?_, fun hi => hs i _ (by rw [hi]; simp)⟩
  rw [List.getElem?_map] at hw
  cases hr : (List.range n)[i]? with
  | none => rw [hr] at hw; cases hw
  | some j =>
    rw [hr] at hw
    cases hw
    obtain ⟨hi, hj⟩ := List.getElem?_eq_some_iff.mp hr
    simp at hi hj
    subst hj
    refine ⟨hgo i _ hi, fun x H2 y => ?_⟩
    obtain ⟨rfl, rfl⟩ := hy i _ x H2 y
    exact ⟨Γ', Le.refl _, S', xn⟩
noncomputable def Kf (T : TAW) : TIW := fun ρ O R => T ρ O fun ws O1 => ∃ j : Int, ws = [.d (.int j)] ∧ -(2 ^ 62) ≤ j ∧ j < 2 ^ 62 ∧ R ((List.range j.toNat).map fun (i : Nat) => .d (.int i)) (fun _ => True) O1
theorem UE {t : TA} {T : TAW} (h : yC K t T) : v7 K (JU t) (Kf T) := by
  intro Γ O H ρ σ S r Q R hT k
  refine h _ _ _ _ _ S r _ _ hT fun Γ1 O1 H1 ws vs l1 S1 r1 h1 => ?_
  obtain ⟨j, rfl, b1, b2, h1⟩ := h1
  cases r1 with
  | cons rx t =>
    cases t
    refine ⟨j, by rw [show _ = V.int j from rx], b1, b2, k _ _ _ _ _ _ l1 S1 (UD (f := fun i => (i : Int)) (fun i H hi => hi) (fun i H x H' ⟨e1, e2⟩ => ⟨e1, by rw [e2, Int.zero_add]⟩) fun i H hi => hi) h1⟩
noncomputable def Kg (T : TAW) : TIW := fun ρ O R => T ρ O fun ws O1 => ∃ i j : Int, ws = [.d (.int i), .d (.int j)] ∧ (-(2 ^ 62) ≤ i ∧ i < 2 ^ 62 ∧ -(2 ^ 62) ≤ j ∧ j < 2 ^ 62) ∧ R ((List.range (j - i).toNat).map fun (k : Nat) => .d (.int (i + k))) (fun _ => True) O1
theorem UF {t : TA} {T : TAW} (h : yC K t T) : v7 K (JV t) (Kg T) := by
  intro Γ O H ρ σ S r Q R hT k
  refine h _ _ _ _ _ S r _ _ hT fun Γ1 O1 H1 ws vs l1 S1 r1 h1 => ?_
  obtain ⟨i, j, rfl, b, h1⟩ := h1
  cases r1 with
  | cons rx t =>
    cases t with
    | cons ry t =>
      cases t
      exact ⟨i, j, by rw [show _ = V.int i from rx, show _ = V.int j from ry], b, k _ _ _ _ _ _ l1 S1 (UD (f := fun k => i + (k : Int)) (fun i H hi => hi) (fun i H x H' ⟨e1, e2⟩ => ⟨e1, e2⟩) fun i H hi => hi) h1⟩
noncomputable def Kh (T : TAW) : TIW := fun ρ O R => T ρ O fun ws O1 => ∃ w us ds, ws = [w] ∧ zq O1 w = some us ∧ zX us = some ds ∧ R ((List.range ds.length).zipWith (fun (i : Nat) d => W.d (.tuple [.int i, d])) ds) (fun O' => zq O' w = some us) O1
theorem UG {t : TA} {T : TAW} (h : yC K t T) : v7 K (X9 K t) (Kh T) := by
  intro Γ O H ρ σ S r Q R hT k
  refine h _ _ _ _ _ S r _ _ hT fun Γ1 O1 H1 ws vs l1 S1 r1 h1 => ?_
  obtain ⟨w, us, ds, rfl, e, hd, h1⟩ := h1
  cases r1 with
  | cons rx t =>
    cases t
    obtain ⟨a, vs, rfl, q1, q2⟩ := z0 S1 rx e
    refine ⟨a, rfl, ⟨vs, q1⟩, k _ _ _ _ _ _ l1 S1 (fun i Γ' O' H' hz hg S' e' => ?_) h1⟩
    obtain ⟨a', vs', ea, q1', q2'⟩ := z0 S' (rx.up hz hg) e'
    cases ea
    rw [yc hd] at q2'
    have hl : ds.length = vs'.length := by rw [← Paired.length q2', List.length_map]
    refine ⟨fun w' hw => ?_, fun hi => ⟨vs', q1', by rw [hi]; simp; omega⟩⟩
    rw [List.getElem?_zipWith] at hw
    cases hr : (List.range ds.length)[i]? with
    | none => rw [hr] at hw; cases hw
    | some j =>
      rw [hr] at hw
      cases hdi : ds[i]? with
      | none => rw [hdi] at hw; cases hw
      | some d =>
        rw [hdi] at hw
        cases hw
        obtain ⟨hi, hj⟩ := List.getElem?_eq_some_iff.mp hr
        simp at hi hj
        subst hj
        obtain ⟨x, hx, rx'⟩ := Paired.getP q2' (i := i) (x := .d d) (by rw [List.getElem?_map, hdi]; rfl)
        refine ⟨⟨vs', x, q1', hx⟩, fun y H2 ⟨t, y', e1, e2, e3, hy⟩ => ?_⟩
        have hy' := hy vs' q1'
        rw [hx] at hy'
        cases hy'
        subst e1 e3
        obtain ⟨Γ2, l2, S2, r2⟩ := uk S' (ds := [.int i, d]) (vs := [.int i, x]) ⟨_, _, rfl, rfl, _, _, rfl, rx', rfl⟩ e2
        exact ⟨Γ2, l2, S2, r2⟩
noncomputable def yq (ws : List W) (keep : OM → Prop) (G : TGW) (TB : TSW) (D : EndsW) (ρ : WS) (O : OM) : Prop := ∃ Pv : Nat → WS → OM → Prop, Pv 0 ρ O ∧ (∀ i ρ O, Pv i ρ O → keep O) ∧
  (∀ i w ρ O, ws[i]? = some w → Pv i ρ O → G w ρ O fun ρ' O' => TB { D with nx := Pv (i + 1), ct := Pv (i + 1), bk := D.nx } ρ' O') ∧ ∀ ρ O, Pv ws.length ρ O → D.nx ρ O
noncomputable def zbU (Wi : TIW) (G : TGW) (TB : TSW) : TSW := fun D ρ O => Wi ρ O fun ws keep O1 => yq ws keep G TB D ρ O1
theorem zam {wi : TI} {Wi : TIW} {g : TG} {G : TGW} {tb : TS} {TB : TSW} (hi : v7 K wi Wi) (hg : RefG K g G) (hb : RefS K tb TB) : RefS K (zbk wi g tb) (zbU Wi G TB) := by
  intro Γ O H ρ σ D DW S r hT e
  refine hi _ _ _ _ _ S r _ _ hT fun Γ1 O1 H1 J ws keep l1 S1 ok h1 => ?_
  obtain ⟨Pv, p0, pk, ps, pd⟩ := h1
  refine ⟨fun i m σ' H' => i ≤ ws.length ∧ m = ws.length - i ∧ ∃ Γ' O' ρ', Le Γ1 Γ' ∧ Sim K Γ' O' H' ∧ relR K Γ' ρ' σ' ∧ Pv i ρ' O', ⟨_, Nat.zero_le _, rfl, Γ1, O1, ρ, Le.refl _, S1, r.mono l1, p0⟩, ?_⟩
  rintro i m σ' H' ⟨hi, rfl, Γ', O', ρ', l', S', r', p'⟩
  obtain ⟨ok1, ok2⟩ := ok i Γ' O' H' l'.z l'.g S' (pk _ _ _ p')
  by_cases hlt : i < ws.length
  · obtain ⟨go, y⟩ := ok1 _ (List.getElem?_eq_getElem hlt)
    refine .inr ⟨go, fun σ2 H2 => ∃ Γ2 O2 ρ2, Le Γ1 Γ2 ∧ Sim K Γ2 O2 H2 ∧ relR K Γ2 ρ2 σ2 ∧ Pv (i + 1) ρ2 O2, fun σ2 H2 ⟨Γ2, O2, ρ2, l2, S2, r2, p2⟩ => ⟨ws.length - (i + 1), by omega, hlt, rfl, Γ2, O2, ρ2, l2, S2, r2, p2⟩, fun x H2 hy => ?_⟩
    obtain ⟨Γ2, l2, S2, rx⟩ := y x H2 hy
    refine hg _ _ _ _ _ _ _ S2 (r'.mono l2) rx _ _ (ps i _ ρ' O' (List.getElem?_eq_getElem hlt) p') fun Γ3 O3 H3 ρ3 σ3 l3 S3 r3 h3 => ?_
    have l13 := (l'.trans l2).trans l3
    refine hb _ _ _ _ _ _ _ S3 r3 h3 ⟨fun Γ4 O4 H4 ρ4 σ4 l4 S4 r4 h4 => ⟨Γ4, O4, ρ4, l13.trans l4, S4, r4, h4⟩, fun Γ4 O4 H4 w v l4 => e.rt _ _ _ _ _ ((l1.trans l13).trans l4), fun Γ4 O4 H4 ρ4 σ4 l4 => e.nx _ _ _ _ _ ((l1.trans l13).trans l4), fun Γ4 O4 H4 ρ4 σ4 l4 S4 r4 h4 => ⟨Γ4, O4, ρ4, l13.trans l4, S4, r4, h4⟩⟩
  · have hi2 : i = ws.length := by omega
    refine .inl ⟨ok2 hi2, e.nx _ _ _ _ _ (l1.trans l') S' r' (pd _ _ ?_)⟩
    rw [← hi2]; exact p'
noncomputable def yf (js : List Nat) (ρ : WS) : WS := js.map fun j => (ρ[j]?).join
theorem u5 {Γ : Gh} {ρ : WS} {σ : St} (r : relR K Γ ρ σ) (n : Nat) (js : List Nat) : relR K Γ (List.replicate n none ++ yf js ρ) (ux n js σ) := by
  refine Paired.appP ?_ ?_
  · induction n with
    | zero => exact .nil
    | succ n ih => exact .cons trivial ih
  · unfold yf
    induction js with
    | nil => exact .nil
    | cons j js ih =>
      refine .cons ?_ ih
      show qA K Γ (ρ[j]?.join) (σ[j]?.join)
      cases h : ρ[j]? with
      | none => exact trivial
      | some o =>
        cases o with
        | none => exact trivial
        | some w =>
          obtain ⟨v, hv, rv⟩ := r.get h
          rw [hv]
          exact rv
noncomputable def Zp (G : TGW) (T : TTW) (E : TEW) (n : Nat) (yh : WS) (w : W) (ρ : WS) (O : OM) (k : Option W → OM → Prop) : Prop :=
  G w ρ O fun ρ1 O1 => (ρ1.length = n + yh.length ∧ ρ1.drop n = yh) ∧ T ρ1 O1 fun ok O2 => if ok = true then E ρ1 O2 fun y O3 => k (some y) O3 else k none O2
noncomputable def wLc (Wi : TIW) (n : Nat) (js : List Nat) (G : TGW) (T : TTW) (E : TEW) : TEW := fun ρ O R => Wi ρ O fun ws keep O1 => keep O1 ∧ ws.length ≤ 1000 ∧ ∃ F : W → Option PyData,
  (∀ w ∈ ws, ∀ us : WS, us.length = n → Zp G T E n (yf js ρ) w (us ++ yf js ρ) O1 fun y O2 => O2 = O1 ∧ y = (F w).map .d) ∧ R (.d (.list (ws.filterMap F))) O1
theorem jb {n : Nat} {yh ρ : WS} (h1 : ρ.length = n + yh.length) (h2 : ρ.drop n = yh) : ∃ us : WS, us.length = n ∧ ρ = us ++ yh := ⟨ρ.take n, by rw [List.length_take]; omega, by rw [← h2, List.take_append_drop]⟩
theorem zbV {wi : TI} {Wi : TIW} {n : Nat} {js : List Nat} {g : TG} {G : TGW} {tt : TT} {T : TTW} {te : TE} {E : TEW} (hi : v7 K wi Wi) (hg : RefG K g G) (ht : yK K tt T) (he : zn K te E) : zn K (tLc wi n js g tt te) (wLc Wi n js G T E) := by
  intro Γ O H ρ σ S r Q R hT k
  refine hi _ _ _ _ _ S r _ _ hT fun Γ1 O1 H1 J ws keep l1 S1 ok h1 => ?_
  obtain ⟨hk, hlen, F, hF, hR⟩ := h1
  intro D hD
  have hFD : Γ1.F D = none := S1.f.free hD
  have r1 := u5 (r.mono l1) n js
  refine ⟨fun i m σ' H' => i ≤ ws.length ∧ m = ws.length - i ∧ ∃ Γ' ρ' vs, Same Γ1.Z Γ'.Z ∧ (∀ a rs, Γ1.G a = some rs → ∃ more, Γ'.G a = some (rs ++ more)) ∧ Γ'.F = upd Γ1.F D (.lst vs) ∧ Sim K Γ' O1 H' ∧ relR K Γ' ρ' σ' ∧
    ρ'.length = n + (yf js ρ).length ∧ ρ'.drop n = yf js ρ ∧ Reps K Γ'.Z ((ws.take i).filterMap F) vs, ⟨_, Nat.zero_le _, rfl, _, _, [], Same.refl _, fun a rs h => ⟨[], by rw [List.append_nil]; exact h⟩, rfl, S1.frameNew hD (.lst []), r1.setF, by simp, by simp, rfl⟩, ?_⟩
  rintro i m σ' H' ⟨hi, rfl, Γ', ρ', vs, z', g', f', S', r', n1, n2, rp⟩
  obtain ⟨ok1, ok2⟩ := ok i Γ' O1 H' z' g' S' hk
  have hvl : vs.length ≤ i := by
    rw [← Reps.length rp]
    exact Nat.le_trans (List.length_filterMap_le _ _) (by rw [List.length_take]; omega)
  by_cases hlt : i < ws.length
  · obtain ⟨go, y⟩ := ok1 _ (List.getElem?_eq_getElem hlt)
    refine .inr ⟨go, fun σ2 H2 => ∃ Γ2 ρ2 vs2, Same Γ1.Z Γ2.Z ∧ (∀ a rs, Γ1.G a = some rs → ∃ more, Γ2.G a = some (rs ++ more)) ∧ Γ2.F = upd Γ1.F D (.lst vs2) ∧ Sim K Γ2 O1 H2 ∧ relR K Γ2 ρ2 σ2 ∧
      ρ2.length = n + (yf js ρ).length ∧ ρ2.drop n = yf js ρ ∧ Reps K Γ2.Z ((ws.take (i + 1)).filterMap F) vs2, fun σ2 H2 h => ⟨ws.length - (i + 1), by omega, hlt, rfl, h⟩, fun x H2 hy => ?_⟩
    obtain ⟨Γ2, l2, S2, rx⟩ := y x H2 hy
    obtain ⟨us, hus, rfl⟩ := jb n1 n2
    have et : ws.take (i + 1) = ws.take i ++ [ws[i]] := (List.take_append_getElem hlt).symm
    refine hg _ _ _ _ _ _ _ S2 (r'.mono l2) rx _ _ (hF _ (List.getElem_mem hlt) us hus) fun Γ3 O3 H3 ρ3 σ3 l3 S3 r3 h3 => ?_
    obtain ⟨⟨m1, m2⟩, h3⟩ := h3
    refine ht _ _ _ _ _ S3 r3 _ _ h3 fun Γ4 O4 H4 b l4 S4 h4 => ?_
    have l24 := (l2.trans l3).trans l4
    have up : ∀ Γ5, Le Γ' Γ5 → Same Γ1.Z Γ5.Z ∧ (∀ a rs, Γ1.G a = some rs → ∃ more, Γ5.G a = some (rs ++ more)) := fun Γ5 l => ⟨z'.trans l.z, fun a rs h => by
      obtain ⟨m, e⟩ := g' a rs h
      obtain ⟨m2, e2⟩ := l.g a _ e
      exact ⟨m ++ m2, by rw [← List.append_assoc]; exact e2⟩⟩
    cases b with
    | true =>
      rw [if_pos rfl] at h4 ⊢
      refine he _ _ _ _ _ S4 (r3.mono l4) _ _ h4 fun Γ5 O5 H5 w5 v5 l5 S5 r5 h5 => ?_
      obtain ⟨rfl, h5⟩ := h5
      have l25 := l24.trans l5
      cases hFw : F ws[i] with
      | none => rw [hFw] at h5; cases h5
      | some d =>
        rw [hFw] at h5
        cases h5
        have f5 : Γ5.F = upd Γ1.F D (.lst vs) := by rw [l25.f, f']
        have fD : Γ5.F D = some (.lst vs) := by rw [f5, zg]
        refine ⟨vs, S5.f _ _ fD, xj (by omega), ?_⟩
        obtain ⟨u1, u2⟩ := up Γ5 l25
        refine ⟨⟨Γ5.Z, Γ5.G, upd Γ5.F D (.lst (vs ++ [v5]))⟩, ρ3, vs ++ [v5], u1, u2, ?_, S5.framePut fD _, ((r3.mono l4).mono l5).setF, m1, m2, ?_⟩
        · show upd Γ5.F D _ = _
          rw [f5, jX]
        · rw [et, List.filterMap_append]
          have : ([ws[i]] : List W).filterMap F = [d] := by simp [hFw]
          rw [this]
          exact Reps.snoc (Reps.same l25.z _ _ rp) r5
    | false =>
      rw [if_neg (by decide)] at h4 ⊢
      obtain ⟨rfl, h4⟩ := h4
      obtain ⟨u1, u2⟩ := up Γ4 l24
      refine ⟨Γ4, ρ3, vs, u1, u2, by rw [l24.f, f'], S4, r3.mono l4, m1, m2, ?_⟩
      cases hFw : F ws[i] with
      | some d => rw [hFw] at h4; cases h4
      | none =>
        rw [et, List.filterMap_append]
        have : ([ws[i]] : List W).filterMap F = [] := by simp [hFw]
        rw [this, List.append_nil]
        exact Reps.same l24.z _ _ rp
  · have hi2 : i = ws.length := by omega
    subst hi2
    refine .inl ⟨ok2 rfl, ?_⟩
    rw [List.take_length] at rp
    obtain ⟨q1, q2, q3⟩ := S'.unframe f' hFD rp
    exact k ⟨upd Γ'.Z D (.lst vs), Γ'.G, Γ1.F⟩ _ _ _ _ (l1.trans ⟨rfl, z'.trans q1, g'⟩) q2 q3 hR
end
end L2
namespace L2
open PySem PySem.Spec PyProof.Rows
section
variable {K : PySem.W.Frag}
noncomputable def zbW {α : Type} (f : Str) (v : α) : List (Str × α) → List (Str × α)
  | [] => [(f, v)]
  | (g, x) :: r => if g = f then (g, v) :: r else (g, x) :: zbW f v r
noncomputable def Ve : W → Option Key
  | .d (.int i) => some (.inl i)
  | .d (.str x) => some (.inr x)
  | _ => none
section
variable {κ α : Type} [DecidableEq κ]
noncomputable def zdx (kvs : List (κ × α)) (k : κ) : Option α := (kvs.find? fun kv => decide (kv.1 = k)).map (·.2)
noncomputable def zc2 (kvs : List (κ × α)) (k : κ) (v : α) : List (κ × α) := if (kvs.any fun kv => decide (kv.1 = k)) = true then kvs.map (fun kv => if kv.1 = k then (kv.1, v) else kv) else kvs ++ [(k, v)]
end
noncomputable def tyW (T : String) (O : OM) (w : W) : Prop := (T = "list" ∧ (zq O w).isSome = true) ∨ (T = "str" ∧ ∃ z, w = .d (.str z)) ∨ (T = "dict" ∧ ∃ a kvs, w = .own a ∧ O a = some (.dK kvs))
theorem Ki {Γ : Gh} {O : OM} {H : Hp} {T : String} {w : W} {v : V} (S : Sim K Γ O H) (r : relW K Γ w v) (h : tyW T O w) : tyV K T v H := by
  rcases h with ⟨rfl, h⟩ | ⟨rfl, z, rfl⟩ | ⟨rfl, a, kvs, rfl, h⟩
  · obtain ⟨ws, e⟩ := Option.isSome_iff_exists.mp h
    obtain ⟨a, vs, rfl, q1, _⟩ := z0 S r e
    exact .inl ⟨rfl, vs, q1⟩
  · rw [show v = .str z from r]; rfl
  · cases (show v = .ref a from r)
    obtain ⟨_, vs, q1, _⟩ := S.o _ _ h
    exact .inr (.inr (.inl ⟨rfl, .inl ⟨vs, q1⟩⟩))
noncomputable def wBM (T : String) (rw : W → List W → OM → WK → Prop) (To : TEW) (Ta : TAW) : TEW := fun ρ O R => To ρ O fun x O1 => tyW T O1 x ∧ Ta ρ O1 fun xs O2 => rw x xs O2 R
theorem zbX {T : String} {r : V → List V → Hp → VK → Prop} {rw : W → List W → OM → WK → Prop} {to : TE} {To : TEW} {t : TA} {Ta : TAW} (hr : RefM K T r rw) (ho : zn K to To) (ha : yC K t Ta) : zn K (tBM K T r to t) (wBM T rw To Ta) := by
  intro Γ O H ρ σ S r0 Q R hT k
  refine ho _ _ _ _ _ S r0 _ _ hT fun Γ1 O1 H1 x v l1 S1 rx h1 => ?_
  refine ⟨Ki S1 rx h1.1, ha _ _ _ _ _ S1 (r0.mono l1) _ _ h1.2 fun Γ2 O2 H2 ws vs l2 S2 rs h2 => ?_⟩
  exact hr _ _ _ _ _ _ _ S2 (rx.mono l2) rs _ _ h2 fun Γ3 O3 H3 w u l3 => k _ _ _ _ _ ((l1.trans l2).trans l3)
noncomputable def zbY (T : String) (rw : W → List W → OM → WK → Prop) (To : TEW) : TEW := fun ρ O R => To ρ O fun x O1 => tyW T O1 x ∧ rw x [] O1 R
theorem zan {T : String} {r : V → List V → Hp → VK → Prop} {rw : W → List W → OM → WK → Prop} {to : TE} {To : TEW} (hr : RefM K T r rw) (ho : zn K to To) : zn K (QL K T r to) (zbY T rw To) := by
  intro Γ O H ρ σ S r0 Q R hT k
  refine ho _ _ _ _ _ S r0 _ _ hT fun Γ1 O1 H1 x v l1 S1 rx h1 => ?_
  exact ⟨Ki S1 rx h1.1, hr _ _ _ _ _ _ _ S1 rx .nil _ _ h1.2 fun Γ3 O3 H3 w u l3 => k _ _ _ _ _ (l1.trans l3)⟩
noncomputable def vD (O : OM) (o w : W) : Option OM := match o with
  | .own a => match O a with
    | some (.lst ws) => if ws.length < 1000 then some (updO O a (.lst (ws ++ [w]))) else none
    | some (.grid rows) => match w with
      | .own b => match O b with
        | some (.lst us) => if rows.length < 1000 then (zX us).map fun ds => updO (del O b) a (.grid (rows ++ [ds])) else none
        | _ => none
      | _ => none
    | _ => none
  | _ => none
noncomputable def ka : W → List W → OM → WK → Prop := fun x ws O R => ∃ w O1, ws = [w] ∧ vD O x w = some O1 ∧ R (.d .none) O1
theorem Jh {T : String} : RefM K T qw ka := by
  rintro Γ O H x v xs vs S rx rs Q R ⟨w, O1, rfl, e, h⟩ k
  cases rs with
  | cons rw t =>
    cases t
    rename_i u
    cases x with
    | d _ => cases e
    | row _ _ => cases e
    | own a =>
      cases (show v = .ref a from rx)
      simp only [vD] at e
      split at e
      · rename_i ws ho
        split at e
        · rename_i hl
          cases e
          obtain ⟨_, us, q1, q2⟩ := S.o _ _ ho
          refine ⟨a, us, u, rfl, rfl, q1, by rw [← Paired.length q2]; exact xj (by omega), ?_⟩
          exact k _ _ _ _ _ (Le.refl _) (S.put (oo := .lst _) ho (by intro _ h; cases h) (by intro _ h; cases h) ⟨_, zg, Paired.appP q2 (.cons rw .nil)⟩) yX h
        · cases e
      · rename_i rows ho
        split at e
        · rename_i b
          cases (show u = .ref b from rw)
          split at e
          · rename_i us hb
            split at e
            · rename_i hl
              cases hd : zX us with
              | none => rw [hd] at e; cases e
              | some ds =>
                rw [hd] at e
                cases e
                rw [yc hd] at hb
                obtain ⟨_, rs, hg, _⟩ := S.o _ _ ho
                obtain ⟨q1, q2, Γ', l', S'⟩ := S.absorb ho hg hb
                refine ⟨a, _, .ref b, rfl, rfl, q1, by rw [List.length_map, q2]; exact xj (by omega), ?_⟩
                exact k _ _ _ _ _ l' S' yX h
            · cases e
          · cases e
        · cases e
      · cases e
noncomputable def UH : W → List W → OM → WK → Prop := fun x ws O R => ∃ a us, x = .own a ∧ ws = [] ∧ O a = some (.lst us) ∧ R (.d .none) (updO O a (.lst []))
theorem zao {T : String} : RefM K T Uq UH := by
  rintro Γ O H x v xs vs S rx rs Q R ⟨a, us, rfl, rfl, ho, h⟩ k
  cases rs
  cases (show v = .ref a from rx)
  obtain ⟨_, vs, q1, q2⟩ := S.o _ _ ho
  exact ⟨a, vs, rfl, rfl, q1, k _ _ _ _ _ (Le.refl _) (S.put (oo := .lst []) ho (by intro _ h; cases h) (by intro _ h; cases h) ⟨_, zg, .nil⟩) yX h⟩
end
end L2
namespace L2
open PySem PySem.Spec PyProof.Rows
section
variable {K : PySem.W.Frag}
noncomputable def Kj (t : TA) : TE := ZH t
theorem xL {X : Cx} {es : List Expr} {t : TA} {pos : Pos} (h : QA X es t) : PE X (.List es pos) (Kj t) := Ui h.pa
noncomputable def Kk (T : TAW) : TEW := fun ρ O R => T ρ O fun ws O1 => ws.length ≤ 1000 ∧ ∀ p, O1 p = none → R (.own p) (updO O1 p (.lst ws))
theorem Ji {t : TA} {T : TAW} (h : yC K t T) : zn K (Kj t) (Kk T) := by
  intro Γ O H ρ σ S r0 Q R hT k
  refine h Γ O H ρ σ S r0 _ _ hT fun Γ1 O1 H1 ws vs l1 S1 rs h1 => ?_
  refine ⟨by rw [← Paired.length rs]; exact qC h1.1, fun p hp => ?_⟩
  obtain ⟨hO, S'⟩ := qD S1 rs hp
  exact k _ _ _ _ _ l1 S' xJ (h1.2 p hO)
noncomputable def zbZ (K : PySem.W.Frag) : List V → Hp → VK → Prop := rLo K
theorem zb0 {X : Cx} (h : X.K = K) : zJ X (.type "list") (zbZ K) := zcV h
theorem zc3 : RefC K (zbZ K) ZV := zag
noncomputable def wCs (vs : List V) : TAW := fun _ O R => R (vs.map ofV) O
noncomputable def tyD : PyData → Option String
  | .none => some "NoneType"
  | .bool _ => some "bool"
  | .int _ => some "int"
  | .str _ => some "str"
  | _ => none
noncomputable def isI : String → String → Option Bool
  | "int", "int" => some true
  | "int", "bool" => some false
  | "int", "str" => some false
  | "bool", "int" => some true
  | "bool", "bool" => some true
  | "bool", "str" => some false
  | "str", "int" => some false
  | "str", "bool" => some false
  | "str", "str" => some true
  | "NoneType", "int" => some false
  | "NoneType", "bool" => some false
  | "NoneType", "str" => some false
  | _, _ => none
noncomputable def Jj (K : PySem.W.Frag) : List V → Hp → VK → Prop := fun xs H Q => ∃ x n t b, xs = [x, .ty n] ∧ TyOf K H x t ∧ PySem.W.kitOne K t (.type n) = some b ∧ Q (.bl b) H
theorem UI {X : Cx} (h : X.K = K) : zJ X (.builtin "isinstance") (Jj K) := by subst h; exact YR
noncomputable abbrev TOW := WS → OM → (Option Int → OM → Prop) → Prop
noncomputable def Vf (K : PySem.W.Frag) (t : TO) (T : TOW) : Prop := ∀ Γ O H ρ σ, Sim K Γ O H → relR K Γ ρ σ → ∀ (Q : Option Int → Hp → Prop) (R : Option Int → OM → Prop), T ρ O R → (∀ Γ' O' H' b, Le Γ Γ' → Sim K Γ' O' H' → R b O' → Q b H') → t σ H Q
noncomputable def Xr : TOW := fun _ O R => R none O
noncomputable def Kl (T : TEW) : TOW := fun ρ O R => T ρ O fun x O1 => ∃ i, x = .d (.int i) ∧ R (some i) O1
theorem Vg : Vf K Xi Xr := fun Γ O H ρ σ S r Q R hT k => k _ _ _ _ (Le.refl _) S hT
theorem Jk {t : TE} {T : TEW} (h : zn K t T) : Vf K (J1 t) (Kl T) := by
  intro Γ O H ρ σ S r Q R hT k
  refine h _ _ _ _ _ S r _ _ hT fun Γ1 O1 H1 x v l1 S1 rx h1 => ?_
  obtain ⟨i, rfl, h1⟩ := h1
  exact ⟨i, rx, k _ _ _ _ l1 S1 h1⟩
noncomputable def yd {α : Type} (xs : List α) (lo hi : Option Int) : List α := (xs.drop (HT.sIx xs.length 0 lo)).take (HT.sIx xs.length xs.length hi - HT.sIx xs.length 0 lo)
theorem Jl {Z : Hp} {ds : List PyData} {vs : List V} (h : Reps K Z ds vs) (lo hi : Option Int) : Reps K Z (yd ds lo hi) (j6 vs lo hi) := by
  have hp : relWs K ⟨Z, fun _ => none, fun _ => none⟩ (ds.map .d) vs := zK h
  have hl := Reps.length h
  have := Paired.takeP (Paired.dropP hp (HT.sIx vs.length 0 lo)) (HT.sIx vs.length vs.length hi - HT.sIx vs.length 0 lo)
  rw [← List.map_drop, ← List.map_take] at this
  unfold yd j6
  rw [hl]
  exact zt this
noncomputable def zb1 (Te : TEW) (Tl Th : TOW) : TEW := fun ρ O R => Te ρ O fun x O1 => Tl ρ O1 fun l O2 => Th ρ O2 fun u O3 => ∃ ws ds, zq O3 x = some ws ∧ zX ws = some ds ∧ R (.d (.list (yd ds l u))) O3
theorem zap {te : TE} {tl th : TO} {Te : TEW} {Tl Th : TOW} (he : zn K te Te) (hl : Vf K tl Tl) (hh : Vf K th Th) : zn K (tSl (QK K) te tl th) (zb1 Te Tl Th) := by
  intro Γ O H ρ σ S r Q R hT k
  refine he _ _ _ _ _ S r _ _ hT fun Γ1 O1 H1 x v l1 S1 rx h1 => ?_
  refine hl _ _ _ _ _ S1 (r.mono l1) _ _ h1 fun Γ2 O2 H2 l l2 S2 h2 => ?_
  refine hh _ _ _ _ _ S2 (r.mono (l1.trans l2)) _ _ h2 fun Γ3 O3 H3 u l3 S3 h3 => ?_
  obtain ⟨ws, ds, e1, e2, h3⟩ := h3
  obtain ⟨a, vs, rfl, q1, q2⟩ := z0 S3 ((rx.mono l2).mono l3) e1
  rw [yc e2] at q2
  refine ⟨a, vs, rfl, q1, fun p hp => ?_⟩
  obtain ⟨Γ', l', S', r'⟩ := u4 S3 (Jl (zt q2) l u) hp
  exact k _ _ _ _ _ (((l1.trans l2).trans l3).trans l') S' r' h3
noncomputable def zb2 : R2W := fun x y O R => ∃ ws us ds es, zq O x = some ws ∧ zq O y = some us ∧ zX ws = some ds ∧ zX us = some es ∧ ds.length + es.length ≤ 1000 ∧ R (.d (.list (ds ++ es))) O
theorem jc {Z : Hp} : ∀ {ds es : List PyData} {vs us : List V}, Reps K Z ds vs → Reps K Z es us → Reps K Z (ds ++ es) (vs ++ us)
  | [], _, _, _, h, g => by rw [show _ = [] from h]; exact g
  | d :: ds, _, _, _, h, g => by
    obtain ⟨x, r, rfl, h1, h2⟩ := h
    exact ⟨x, _, rfl, h1, jc h2 g⟩
theorem zc4 : RefR K (QT K) zb2 := by
  rintro Γ O H x y v u S rx ry Q R ⟨ws, us, ds, es, e1, e2, e3, e4, hl, h⟩ k
  obtain ⟨a, vs, rfl, q1, q2⟩ := z0 S rx e1
  obtain ⟨b, zs, rfl, p1, p2⟩ := z0 S ry e2
  rw [yc e3] at q2
  rw [yc e4] at p2
  have q3 := zt q2
  have p3 := zt p2
  refine ⟨a, b, vs, zs, rfl, rfl, q1, p1, by rw [← Reps.length q3, ← Reps.length p3]; exact qC hl, fun p hp => ?_⟩
  obtain ⟨Γ', l', S', r'⟩ := u4 S (jc q3 p3) hp
  exact k _ _ _ _ _ l' S' r' h
noncomputable def wIn (neg : Bool) : R2W := fun x y O R => ∃ d ds, x = .d d ∧ vC O y = some ds ∧ scD d = true ∧ ds.all scD = true ∧ R (.d (.bool (if neg then !inV (vOf d) (ds.map vOf) else inV (vOf d) (ds.map vOf)))) O
theorem Xs {Z : Hp} : ∀ {ds : List PyData} {vs : List V}, Reps K Z ds vs → ds.all scD = true → vs = ds.map vOf
  | [], _, h, _ => h
  | d :: ds, _, h, a => by
    obtain ⟨x, r, rfl, h1, h2⟩ := h
    simp at a
    rw [ui h1 a.1, Xs h2 (by simpa using a.2)]
    rfl
theorem Xt {d : PyData} (h : scD d = true) : vq (vOf d) = true := by cases d <;> first | rfl | simp [scD] at h
noncomputable def zb3 (K : PySem.W.Frag) (neg : Bool) : R2 := rIn K neg
theorem zc5 {X : Cx} (h : X.K = K) : OpR X (compareOp .In) (zb3 K false) := by subst h; exact Ul
theorem zdy {neg : Bool} : RefR K (zb3 K neg) (wIn neg) := by
  rintro Γ O H x y v u S rx ry Q R ⟨d, ds, rfl, e, h1, h2, h⟩ k
  obtain ⟨a, vs, rfl, q1, q2⟩ := Xq S ry e
  have hv := ui rx h1
  have hvs := Xs q2 h2
  subst hv hvs
  refine ⟨a, _, rfl, q1, Xt h1, ?_, k _ _ _ _ _ (Le.refl _) S yL h⟩
  rw [List.all_map]
  simp only [List.all_eq_true] at h2 ⊢
  exact fun z hz => Xt (h2 z hz)
noncomputable def Km : R2W := fun x y O R => ∃ i j, x = .d (.str i) ∧ y = .d (.str j) ∧ i.length + j.length ≤ sizeLine ∧ R (.d (.str (i ++ j))) O
theorem zb4 : RefR K (fun x y H Q => ∃ i j, x = .str i ∧ y = .str j ∧ i.length + j.length ≤ sizeLine ∧ Q (.str (i ++ j)) H) Km := by
  rintro Γ O H x y v u S rx ry Q R ⟨i, j, rfl, rfl, hl, h⟩ k
  exact ⟨i, j, rx, ry, hl, k _ _ _ _ _ (Le.refl _) S uj h⟩
end
end L2
namespace L2
open PySem PySem.Spec PyProof.Rows
section
variable {K : PySem.W.Frag}
theorem Sim.unframeO {Γ : Gh} {O : OM} {H : Hp} (S : Sim K Γ O H) {a : Addr} {ds : List PyData} {vs : List V} {F : Hp} (hF : Γ.F = upd F a (.lst vs)) (h0 : F a = none) (hr : Reps K Γ.Z ds vs) :
    O a = none ∧ Sim K ⟨Γ.Z, Γ.G, F⟩ (updO O a (.lst (ds.map .d))) H := by
  have hFa : Γ.F a = some (.lst vs) := by rw [hF, zg]
  obtain ⟨hz, hO, hrow⟩ := S.fd _ _ hFa
  have kF : ∀ b o, F b = some o → b ≠ a ∧ Γ.F b = some o := fun b o e => by
    have hb : b ≠ a := fun z => by rw [z, h0] at e; cases e
    exact ⟨hb, by rw [hF, zd hb]; exact e⟩
  have k1 : ∀ {x : Addr} {rx : List (List PyData)}, updO O a (.lst (ds.map .d)) x = some (.grid rx) → O x = some (.grid rx) := fun {x rx} h => by
    by_cases hx : x = a
    · subst hx; rw [zj] at h; cases h
    · rw [zi hx] at h; exact h
  refine ⟨hO, ⟨S.z, fun b oo e => ?_, S.gd, fun b u e => S.f _ _ (kF b u e).2, fun b oo e hn => ?_, fun b o e => S.fg b o (kF b o e).2, fun b o e => ⟨(S.fd b o (kF b o e).2).1, by rw [zi (kF b o e).1]; exact (S.fd b o (kF b o e).2).2.1, fun c rows rs e1 => (S.fd b o (kF b o e).2).2.2 c rows rs (k1 e1)⟩, fun x y ra rb rs ss r e1 e2 => S.u x y ra rb rs ss r (k1 e1) (k1 e2)⟩⟩
  · by_cases hb : b = a
    · subst hb
      rw [zj] at e
      cases e
      exact ⟨hz, vs, S.f _ _ hFa, zK hr⟩
    · rw [zi hb] at e
      obtain ⟨q1, q2⟩ := S.o _ _ e
      refine ⟨q1, (q2.keep (Le.refl _) rfl rfl fun rs r hg ⟨rows, hrw⟩ hm => ⟨rfl, rfl, ?_⟩).setF⟩
      subst hrw
      exact zi (fun z => hrow b rows rs e hg (by rw [← z]; exact hm))
  · by_cases hb : b = a
    · rw [hb]; exact S.fg _ _ hFa
    · rw [zi hb] at e; exact S.gn b oo e hn
noncomputable def Jm (wi : TI) (n : Nat) (js : List Nat) (g : TG) (tt : TT) (te : TE) : TE := tLc wi n js g tt te
section
variable {X : Cx} {N : List Str} {n : Nat} {js : List Nat} {scope : Scope} {cl : List (Str × Addr)} {elt tg iter : Expr} {ifs : List Expr} {pos : Pos} {wi : TI} {g : TG} {tt : TT} {te : TE}
theorem zb5 (L : LcOk X N n js scope cl) (hc : X.calm = true) (hi : PI X tg iter wi)
    (hg : ∀ C s0 H0 fp0, PG (zN X N scope cl C s0 H0 fp0) tg g) (ht : ∀ C s0 H0 fp0, PTs (zN X N scope cl C s0 H0 fp0) ifs tt) (he : ∀ C s0 H0 fp0, PE (zN X N scope cl C s0 H0 fp0) elt te)
    (hs : ∀ x, foldedSetIterable iter X.env x = pure x := by intro _; rfl) : PE X (.ListComp elt [⟨tg, iter, ifs, 0⟩] scope pos) (Jm wi n js g tt te) := yD L hc hi hg ht he hs
theorem kN {i : Nat} {x : Str} {pos' spos : Pos} (hN : X.N.Nodup) (hx : X.N[i]? = some x) (hk : X.env.scope.names.lookup x = some .local) (L : LcOk X N n js scope cl) (hc : X.calm = true) (hi : PI X tg iter wi)
    (hg : ∀ C s0 H0 fp0, PG (zN X N scope cl C s0 H0 fp0) tg g) (ht : ∀ C s0 H0 fp0, PTs (zN X N scope cl C s0 H0 fp0) ifs tt) (he : ∀ C s0 H0 fp0, PE (zN X N scope cl C s0 H0 fp0) elt te)
    (hsw : swapsWith (.ListComp elt [⟨tg, iter, ifs, 0⟩] scope pos) (some (.Name x pos')) spos.line X.env = pure true := by rfl)
    (hs : ∀ x, foldedSetIterable iter X.env x = pure x := by intro _; rfl) : PS X (.Assign [.Name x pos'] (.ListComp elt [⟨tg, iter, ifs, 0⟩] scope pos) spos) (qU (Jm wi n js g tt te) (vQ i)) := ZP hN hx hk L hc hi hg ht he hsw hs
end
noncomputable def zb6 (Wi : TIW) (n : Nat) (js : List Nat) (G : TGW) (T : TTW) (E : TEW) : TEW := fun ρ O R => Wi ρ O fun ws keep O1 => keep O1 ∧ ws.length ≤ 1000 ∧ ∃ F : W → Option PyData,
  (∀ w ∈ ws, ∀ us : WS, us.length = n → Zp G T E n (yf js ρ) w (us ++ yf js ρ) O1 fun y O2 => O2 = O1 ∧ y = (F w).map .d) ∧ ∀ p, O1 p = none → R (.own p) (updO O1 p (.lst ((ws.filterMap F).map .d)))
theorem zaq {wi : TI} {Wi : TIW} {n : Nat} {js : List Nat} {g : TG} {G : TGW} {tt : TT} {T : TTW} {te : TE} {E : TEW} (hi : v7 K wi Wi) (hg : RefG K g G) (ht : yK K tt T) (he : zn K te E) : zn K (Jm wi n js g tt te) (zb6 Wi n js G T E) := by
  intro Γ O H ρ σ S r Q R hT k
  refine hi _ _ _ _ _ S r _ _ hT fun Γ1 O1 H1 J ws keep l1 S1 ok h1 => ?_
  obtain ⟨hk, hlen, F, hF, hR⟩ := h1
  intro D hD
  have hFD : Γ1.F D = none := S1.f.free hD
  have hOD := (S1.free hD).2.1
  have r1 := u5 (r.mono l1) n js
  refine ⟨fun i m σ' H' => i ≤ ws.length ∧ m = ws.length - i ∧ ∃ Γ' ρ' vs, Same Γ1.Z Γ'.Z ∧ (∀ a rs, Γ1.G a = some rs → ∃ more, Γ'.G a = some (rs ++ more)) ∧ Γ'.F = upd Γ1.F D (.lst vs) ∧ Sim K Γ' O1 H' ∧ relR K Γ' ρ' σ' ∧
    ρ'.length = n + (yf js ρ).length ∧ ρ'.drop n = yf js ρ ∧ Reps K Γ'.Z ((ws.take i).filterMap F) vs, ⟨_, Nat.zero_le _, rfl, _, _, [], Same.refl _, fun a rs h => ⟨[], by rw [List.append_nil]; exact h⟩, rfl, S1.frameNew hD (.lst []), r1.setF, by simp, by simp, rfl⟩, ?_⟩
  rintro i m σ' H' ⟨hi, rfl, Γ', ρ', vs, z', g', f', S', r', n1, n2, rp⟩
  obtain ⟨ok1, ok2⟩ := ok i Γ' O1 H' z' g' S' hk
  have hvl : vs.length ≤ i := by
    rw [← Reps.length rp]
    exact Nat.le_trans (List.length_filterMap_le _ _) (by rw [List.length_take]; omega)
  by_cases hlt : i < ws.length
  · obtain ⟨go, y⟩ := ok1 _ (List.getElem?_eq_getElem hlt)
    refine .inr ⟨go, fun σ2 H2 => ∃ Γ2 ρ2 vs2, Same Γ1.Z Γ2.Z ∧ (∀ a rs, Γ1.G a = some rs → ∃ more, Γ2.G a = some (rs ++ more)) ∧ Γ2.F = upd Γ1.F D (.lst vs2) ∧ Sim K Γ2 O1 H2 ∧ relR K Γ2 ρ2 σ2 ∧
      ρ2.length = n + (yf js ρ).length ∧ ρ2.drop n = yf js ρ ∧ Reps K Γ2.Z ((ws.take (i + 1)).filterMap F) vs2, fun σ2 H2 h => ⟨ws.length - (i + 1), by omega, hlt, rfl, h⟩, fun x H2 hy => ?_⟩
    obtain ⟨Γ2, l2, S2, rx⟩ := y x H2 hy
    obtain ⟨us, hus, rfl⟩ := jb n1 n2
    have et : ws.take (i + 1) = ws.take i ++ [ws[i]] := (List.take_append_getElem hlt).symm
    refine hg _ _ _ _ _ _ _ S2 (r'.mono l2) rx _ _ (hF _ (List.getElem_mem hlt) us hus) fun Γ3 O3 H3 ρ3 σ3 l3 S3 r3 h3 => ?_
    obtain ⟨⟨m1, m2⟩, h3⟩ := h3
    refine ht _ _ _ _ _ S3 r3 _ _ h3 fun Γ4 O4 H4 b l4 S4 h4 => ?_
    have l24 := (l2.trans l3).trans l4
    have up : ∀ Γ5, Le Γ' Γ5 → Same Γ1.Z Γ5.Z ∧ (∀ a rs, Γ1.G a = some rs → ∃ more, Γ5.G a = some (rs ++ more)) := fun Γ5 l => ⟨z'.trans l.z, fun a rs h => by
      obtain ⟨m, e⟩ := g' a rs h
      obtain ⟨m2, e2⟩ := l.g a _ e
      exact ⟨m ++ m2, by rw [← List.append_assoc]; exact e2⟩⟩
    cases b with
    | true =>
      rw [if_pos rfl] at h4 ⊢
      refine he _ _ _ _ _ S4 (r3.mono l4) _ _ h4 fun Γ5 O5 H5 w5 v5 l5 S5 r5 h5 => ?_
      obtain ⟨rfl, h5⟩ := h5
      have l25 := l24.trans l5
      cases hFw : F ws[i] with
      | none => rw [hFw] at h5; cases h5
      | some d =>
        rw [hFw] at h5
        cases h5
        have f5 : Γ5.F = upd Γ1.F D (.lst vs) := by rw [l25.f, f']
        have fD : Γ5.F D = some (.lst vs) := by rw [f5, zg]
        refine ⟨vs, S5.f _ _ fD, xj (by omega), ?_⟩
        obtain ⟨u1, u2⟩ := up Γ5 l25
        refine ⟨⟨Γ5.Z, Γ5.G, upd Γ5.F D (.lst (vs ++ [v5]))⟩, ρ3, vs ++ [v5], u1, u2, ?_, S5.framePut fD _, ((r3.mono l4).mono l5).setF, m1, m2, ?_⟩
        · show upd Γ5.F D _ = _
          rw [f5, jX]
        · rw [et, List.filterMap_append]
          have : ([ws[i]] : List W).filterMap F = [d] := by simp [hFw]
          rw [this]
          exact Reps.snoc (Reps.same l25.z _ _ rp) r5
    | false =>
      rw [if_neg (by decide)] at h4 ⊢
      obtain ⟨rfl, h4⟩ := h4
      obtain ⟨u1, u2⟩ := up Γ4 l24
      refine ⟨Γ4, ρ3, vs, u1, u2, by rw [l24.f, f'], S4, r3.mono l4, m1, m2, ?_⟩
      cases hFw : F ws[i] with
      | some d => rw [hFw] at h4; cases h4
      | none =>
        rw [et, List.filterMap_append]
        have : ([ws[i]] : List W).filterMap F = [] := by simp [hFw]
        rw [this, List.append_nil]
        exact Reps.same l24.z _ _ rp
  · have hi2 : i = ws.length := by omega
    subst hi2
    refine .inl ⟨ok2 rfl, ?_⟩
    rw [List.take_length] at rp
    obtain ⟨q1, q2⟩ := S'.unframeO f' hFD rp
    exact k ⟨Γ'.Z, Γ'.G, Γ1.F⟩ _ _ _ _ (l1.trans ⟨rfl, z', g'⟩) q2 xJ (hR D hOD)
end
end L2
namespace L2
open PySem PySem.Spec PyProof.Rows
section
variable {X : Cx} {K : PySem.W.Frag}
theorem yz (hK : X.K = K) : IxR X (QJ K) := by subst hK; exact zbs
theorem zG {tg l : Expr} {tl : TE} (hK : X.K = K) (hl : PE X l tl) : PI X tg l (X0 K tl) := by subst hK; exact KR hl
theorem Xu {tg l : Expr} {tl : TE} (hK : X.K = K) (hl : PE X l tl) : PI X tg l (QD K tl) := by subst hK; exact zbj hl
theorem ZY {es : List Expr} {k : Nat} {tp : Pos} {l : Expr} {ta : TA} {p pos : Pos} (hK : X.K = K) (hg : Gl X "enumerate") (hm : X.mg "enumerate" = none) (ha : PA X [l] ta) (hs : starEach [l] X.env = [(false, eval l X.env)] := by rfl) :
    PI X (.Tuple es k tp) (.Call (.Name "enumerate" p) [l] [] pos) (X9 K ta) := by subst hK; exact K5 hg hm ha hs
theorem xM {es : List Expr} {k : Nat} {t : TGs} {n : Nat} {pos : Pos} (hK : X.K = K) (hc : X.calm = true) (h : PGs X es t)
    (hn : (assignEach es X.env).length = n := by rfl) (hst : (assignEach es X.env).findIdx? (·.1) = none := by rfl) : PG X (.Tuple es k pos) (QC K n t) := by subst hK; exact zbh hc h hn hst
section
variable {T : String} {name : Str} {id : String} {r : V → List V → Hp → VK → Prop} {o e : Expr} {es : List Expr} {to : TE} {t : TA} {apos cpos : Pos}
theorem zar (hK : X.K = K) (pa : PlainAttrs T) (slot : Slot T name id) (hty : typeOf (.builtin id) = pure (.type "method_descriptor")) (hm : MtR X id r) (ho : PE X o to)
    (hbase : attributeBase o name X.env (eval o X.env) = eval o X.env := by rfl) (hline : (apos.endLine == cpos.line) = true := by rfl) : PE X (.Call (.Attribute o name apos) [] [] cpos) (QL K T r to) := by subst hK; exact zbv pa slot hty hm ho hbase hline
theorem zP (hK : X.K = K) (pa : PlainAttrs T) (slot : Slot T name id) (hty : typeOf (.builtin id) = pure (.type "method_descriptor")) (hm : MtR X id r) (ho : PE X o to) (ha : PA X (e :: es) t)
    (hbase : attributeBase o name X.env (eval o X.env) = eval o X.env := by rfl)
    (hfew : ((backTo cpos (starEach (e :: es) X.env)).all (fun x => !x.1) && (backToKw cpos (keywordEach [] X.env)).all (fun x => x.1.isSome) && decide ((e :: es).length + ([] : List Keyword).length + (if ([] : List Keyword).isEmpty then 0 else 1) < 30)) = true := by rfl)
    (hline : (apos.endLine == cpos.line) = true := by rfl) (hs : starEach (e :: es) X.env = (false, eval e X.env) :: starEach es X.env := by rfl) (hplain : (backTo cpos (starEach es X.env)).any (·.1) = false := by rfl) :
    PE X (.Call (.Attribute o name apos) (e :: es) [] cpos) (tBM K T r to t) := by subst hK; exact X6 pa slot hty hm ho ha hbase hfew hline hs hplain
end
noncomputable def Kn (K : PySem.W.Frag) : List V → Hp → VK → Prop := fun xs H Q => ∃ p ys, xs = [.ref p] ∧ (SqL K H p ys ∨ SqT K H p ys) ∧ Q (.int ys.length) H
theorem z9 (hK : X.K = K) : zJ X (.builtin "len") (Kn K) := by subst hK; exact ZM
theorem zb7 : RefC K (Kn K) Q9 := zc0
noncomputable def Ko (K : PySem.W.Frag) : List V → Hp → VK → Prop := fun xs H Q => ∃ p ys, xs = [.ref p] ∧ ((SqL K H p ys ∧ ∀ l, H l = none → Q (.ref l) (upd H l (.tup ys))) ∨ (SqT K H p ys ∧ Q (.ref p) H))
theorem u6 (hK : X.K = K) : zJ X (.type "tuple") (Ko K) := by subst hK; exact Za
theorem zb8 : RefC K (Ko K) ZW := zah
noncomputable def Kp (K : PySem.W.Frag) (ta : TE) : TT := fun σ H Q => ta σ H fun x H' => ∃ k, ZF K x H' k ∧ Q k H'
theorem kO {a : Expr} {ta : TE} (hK : X.K = K) (ha : PE X a ta) (he : ∀ whole, isTrue a X.env whole = (do let v ← whole; standAt a.pos; holding [v] (truthy v))) : PT X a (Kp K ta) := by
  subst hK; exact QH ha he
theorem Jn {t : TE} {T : TEW} (h : zn K t T) : yK K (Kp K t) (Q6 T) := zac h
theorem UJ (hK : X.K = K) (hu : X.A.units + 64 < cLine) : OpR X (compareOp .Eq) (QP K) := by subst hK; exact zbB hu
theorem UK (hK : X.K = K) (hu : X.A.units + 64 < cLine) : OpR X (compareOp .NotEq) (QQ K) := by subst hK; exact zbC hu
theorem zas : yK K zbA (fun _ O R => R true O) := fun Γ O H ρ σ S r Q R hT k => k _ _ _ _ (Le.refl _) S hT
end
section
variable {K : PySem.W.Frag}
end
end L2
namespace L2
open PySem PySem.Spec PyProof.Rows
section
variable {K : PySem.W.Frag}
noncomputable def wCR (a : Addr) : TEW := fun _ O R => R (.own a) O
theorem zb9 {a : Addr} : zn K (tC (.ref a)) (wCR a) := fun Γ O H ρ σ S r Q R h k => k _ _ _ _ _ (Le.refl _) S xJ h
theorem UL {s : SpW} {t : TA} {T : TAW} (h : yC K t T) : zn K (xv (zb K s) [] E0 t) (Zn s [] T) := Q8 h
theorem zZ {T U : TSW} {D : EndsW} {ρ : WS} {O : OM} (J : WS → OM → Prop) (ht : ∀ R : WS → OM → Prop, (∀ ρ' O', J ρ' O' → R ρ' O') → T { D with nx := R } ρ O) (hu : ∀ ρ' O', J ρ' O' → U D ρ' O') : xK T U D ρ O := ht (U D) hu
theorem yq.by {ws : List W} {keep : OM → Prop} {G : TGW} {TB : TSW} {D : EndsW} {ρ : WS} {O : OM} (Pv : Nat → WS → OM → Prop) (h0 : Pv 0 ρ O) (hk : ∀ i ρ O, Pv i ρ O → keep O)
    (hs : ∀ i w ρ O, ws[i]? = some w → Pv i ρ O → ∀ R : WS → OM → Prop, (∀ ρ' O', Pv (i + 1) ρ' O' → R ρ' O') → G w ρ O fun ρ' O' => TB { D with nx := R, ct := R, bk := D.nx } ρ' O') (hd : ∀ ρ O, Pv ws.length ρ O → D.nx ρ O) : yq ws keep G TB D ρ O :=
  ⟨Pv, h0, hk, fun i w ρ O e p => hs i w ρ O e p _ fun _ _ z => z, hd⟩
theorem yq.rng {n : Nat} {f : Nat → Int} {G : TGW} {TB : TSW} {D : EndsW} {ρ : WS} {O : OM} (Pv : Nat → WS → OM → Prop) (h0 : Pv 0 ρ O)
    (hs : ∀ i ρ O, i < n → Pv i ρ O → ∀ R : WS → OM → Prop, (∀ ρ' O', Pv (i + 1) ρ' O' → R ρ' O') → G (.d (.int (f i))) ρ O fun ρ' O' => TB { D with nx := R, ct := R, bk := D.nx } ρ' O') (hd : ∀ ρ O, Pv n ρ O → D.nx ρ O) : yq ((List.range n).map fun i => .d (.int (f i))) (fun _ => True) G TB D ρ O :=
  yq.by Pv h0 (fun _ _ _ _ => trivial) (fun i w ρ O e p R hR => by
    rw [List.getElem?_map] at e
    cases hr : (List.range n)[i]? with
    | none => rw [hr] at e; cases e
    | some j =>
      rw [hr] at e
      cases e
      obtain ⟨hi, hj⟩ := List.getElem?_eq_some_iff.mp hr
      simp at hi hj
      subst hj
      exact hs i ρ O hi p R hR) (fun ρ O p => hd ρ O (by simpa using p))
theorem us2 {P : WS → Prop} : (∀ us : WS, us.length = 2 → P us) ↔ ∀ u v, P [u, v] := by
  constructor
  · intro h u v; exact h [u, v] rfl
  · intro h us hl
    match us, hl with
    | [u, v], _ => exact h u v
end
noncomputable abbrev PF := Nat → Nat → Cel
noncomputable def genG (h w : Nat) (f : PF) : List (List PyData) := (List.range h).map fun i => (List.range w).map fun j => zF (f i j)
noncomputable def setF (f : PF) (i j : Nat) (c : Cel) : PF := fun a b => if a = i ∧ b = j then c else f a b
end L2
namespace L2
open PySem PySem.Spec PyProof.Rows
theorem yM {X : Cx} : OpR X (binaryOp .Mult) (rI IntMulOk fun i j => .int (i * j)) := opI fun _ _ _ _ _ _ _ hc q => mul_int q hc
theorem mulL {a b : Int} (h1 : -1000000000000 ≤ a) (h2 : a ≤ 1000000000000) : IntMulOk a b := (K3 h1 h2).ok
theorem mulR {a b : Int} (h1 : -1000000000000 ≤ b) (h2 : b ≤ 1000000000000) : IntMulOk a b := (QR h1 h2).ok
noncomputable def Bt (m : Nat) (c : Int) : Prop := c.natAbs < 2 ^ m
theorem Bt.bits {m : Nat} {c : Int} (h : Bt m c) : Builtin.Int.intBits c ≤ m := by
  unfold Builtin.Int.intBits
  by_cases hc : c = 0
  · simp [hc]
  · have hn : c.natAbs ≠ 0 := by omega
    simp only [beq_iff_eq, hc, if_false]
    exact (Nat.log2_lt hn).mpr h
theorem Bt.mono {m n : Nat} {a : Int} (ha : Bt m a) (h : m ≤ n) : Bt n a := Nat.lt_of_lt_of_le ha (Nat.pow_le_pow_right (by decide) h)
theorem Bt.small {a : Int} (h1 : -1000000000000 ≤ a) (h2 : a ≤ 1000000000000) : Bt 40 a := by
  unfold Bt
  have : (2 : Nat) ^ 40 = 1099511627776 := by decide
  omega
end L2
namespace L2
open PySem PySem.Spec PyProof.Rows
section
variable {K : PySem.W.Frag}
theorem RefR.weak {r : R2} {rw rw' : R2W} (h : RefR K r rw) (imp : ∀ x y O R, rw' x y O R → rw x y O R) : RefR K r rw' := fun Γ O H x y v u S rx ry Q R hT k => h Γ O H x y v u S rx ry Q R (imp _ _ _ _ hT) k
theorem RefC.weak {r : List V → Hp → VK → Prop} {rw rw' : List W → OM → WK → Prop} (h : RefC K r rw) (imp : ∀ x O R, rw' x O R → rw x O R) : RefC K r rw' := fun Γ O H xs vs S rs Q R hT k => h Γ O H xs vs S rs Q R (imp _ _ _ hT) k
noncomputable def u7 (i : Nat) : TEW := fun ρ O R => match ρ[i]? with
  | some (some w) => R w O
  | _ => False
theorem zca {i : Nat} : zn K (jY i) (u7 i) := fun Γ O H ρ σ S r Q R hT k => K6 Γ O H ρ σ S r Q R (by
  unfold u7 at hT
  split at hT
  · rename_i w e; exact ⟨w, e, hT⟩
  · exact hT.elim) k
noncomputable def vI0 (g : Int → Int → V) : R2W := fun x y O R => match x, y with
  | .d (.int i), .d (.int j) => R (ofV (g i j)) O
  | _, _ => False
noncomputable def vI (C : Int → Int → Prop) (g : Int → Int → V) : R2W := fun x y O R => match x, y with
  | .d (.int i), .d (.int j) => C i j ∧ R (ofV (g i j)) O
  | _, _ => False
theorem zc6 {g : Int → Int → V} (hg : ∀ i j, scV (g i j) = true := by intro _ _; rfl) : RefR K (rI0 g) (vI0 g) := (zdr hg).weak fun x y O R h => by
  unfold vI0 at h
  split at h
  · exact ⟨_, _, rfl, rfl, h⟩
  · exact h.elim
theorem zdz {C : Int → Int → Prop} {g : Int → Int → V} (hg : ∀ i j, scV (g i j) = true := by intro _ _; rfl) : RefR K (rI C g) (vI C g) := (r_I hg).weak fun x y O R h => by
  unfold vI at h
  split at h
  · exact ⟨_, _, rfl, rfl, h⟩
  · exact h.elim
noncomputable def vU (g : Int → V) : W → OM → WK → Prop := fun x O R => match x with
  | .d (.int i) => R (ofV (g i)) O
  | _ => False
theorem zdA {g : Int → V} (hg : ∀ i, scV (g i) = true := by intro _; rfl) : RefU K (rU g) (vU g) := fun Γ O H x v S rx Q R h k => r_U hg Γ O H x v S rx Q R (by
  unfold vU at h
  split at h
  · exact ⟨_, rfl, h⟩
  · exact h.elim) k
noncomputable def vEq : R2W := fun x y O R => match x, y with
  | .d (.int i), .d (.int j) => R (.d (.bool (decide (i = j)))) O
  | .d a, .d b => scD a = true ∧ scD b = true ∧ uV (vOf a) (vOf b) = true ∧ R (.d (.bool (decide (vOf a = vOf b)))) O
  | _, _ => False
noncomputable def vNe : R2W := fun x y O R => match x, y with
  | .d (.int i), .d (.int j) => R (.d (.bool (!decide (i = j)))) O
  | .d a, .d b => scD a = true ∧ scD b = true ∧ uV (vOf a) (vOf b) = true ∧ R (.d (.bool (!decide (vOf a = vOf b)))) O
  | _, _ => False
theorem zc7 : RefR K rEq vEq := zds.weak fun x y O R h => by
  unfold vEq at h
  split at h
  · rename_i i j
    have e : decide (vOf (.int i) = vOf (.int j)) = decide (i = j) := by simp [vOf]
    exact ⟨.int i, .int j, rfl, rfl, rfl, rfl, rfl, by rw [e]; exact h⟩
  · exact ⟨_, _, rfl, rfl, h⟩
  · exact h.elim
theorem zc8 : RefR K rNe vNe := zdt.weak fun x y O R h => by
  unfold vNe at h
  split at h
  · rename_i i j
    have e : decide (vOf (.int i) = vOf (.int j)) = decide (i = j) := by simp [vOf]
    exact ⟨.int i, .int j, rfl, rfl, rfl, rfl, rfl, by rw [e]; exact h⟩
  · exact ⟨_, _, rfl, rfl, h⟩
  · exact h.elim
noncomputable def zcb : R2W := fun x y O R => match y with
  | .d .none => R (.d (.bool (Va x))) O
  | _ => False
noncomputable def Kq : R2W := fun x y O R => match y with
  | .d .none => R (.d (.bool (!Va x))) O
  | _ => False
noncomputable def Jo : R2W := fun x y O R => match y with
  | .d (.int i) => ∃ ws, zq O x = some ws ∧ ∃ w, atI ws i = some w ∧ R w O
  | _ => False
theorem zcc : RefR K (ZJ K) Jo := zcX.weak fun x y O R h => by
  unfold Jo at h
  split at h
  · obtain ⟨ws, e, w, e2, h⟩ := h
    exact ⟨ws, _, w, rfl, e, e2, h⟩
  · exact h.elim
noncomputable def jB (T : TEW) : TTW := fun ρ O R => T ρ O fun x O1 => match x with
  | .d (.bool k) => R k O1
  | _ => False
theorem Xv {t : TE} {T : TEW} (h : zn K t T) : yK K (X3 t) (jB T) := by
  intro Γ O H ρ σ S r0 Q R hT k
  refine h Γ O H ρ σ S r0 _ _ hT fun Γ1 O1 H1 x v l1 S1 rx h1 => ?_
  split at h1
  · exact ⟨_, rx, k _ _ _ _ l1 S1 h1⟩
  · exact h1.elim
theorem zc9 {t : TE} {T : TEW} (h : zn K t T) : yK K (tB t) (jB T) := Xv h
noncomputable def ZZ (r r' : R2W) (Ta Tb Tc : TEW) : TEW := fun ρ O R => Ta ρ O fun x O1 => Tb ρ O1 fun y O2 => r x y O2 fun z O3 => match z with
  | .d (.bool k) => if k = true then Tc ρ O3 fun w O4 => r' y w O4 R else R (.d (.bool false)) O3
  | _ => False
theorem Jp {r r' : R2} {rw rw' : R2W} {ta tb tc : TE} {Ta Tb Tc : TEW} (hr : RefR K r rw) (hr' : RefR K r' rw') (ha : zn K ta Ta) (hb : zn K tb Tb) (hc : zn K tc Tc) : zn K (ZD r r' ta tb tc) (ZZ rw rw' Ta Tb Tc) := by
  intro Γ O H ρ σ S r0 Q R h k
  refine ha Γ O H ρ σ S r0 _ _ h fun Γ1 O1 H1 x v l1 S1 rx h1 => ?_
  refine hb Γ1 O1 H1 ρ σ S1 (r0.mono l1) _ _ h1 fun Γ2 O2 H2 y u l2 S2 ry h2 => ?_
  refine hr Γ2 O2 H2 x y v u S2 (rx.mono l2) ry _ _ h2 fun Γ3 O3 H3 w z l3 S3 rz h3 => ?_
  split at h3
  · rename_i c
    refine ⟨c, rz, ?_⟩
    have l13 := (l1.trans l2).trans l3
    cases c with
    | true =>
      rw [if_pos rfl] at h3 ⊢
      refine hc _ _ _ _ _ S3 (r0.mono l13) _ _ h3 fun Γ4 O4 H4 q z4 l4 S4 r4 h4 => ?_
      exact hr' _ _ _ _ _ _ _ S4 (ry.mono (l3.trans l4)) r4 _ _ h4 fun Γ5 O5 H5 w5 z5 l5 S5 r5 h5 => k _ _ _ _ _ ((l13.trans l4).trans l5) S5 r5 h5
    | false => rw [if_neg (by decide)] at h3 ⊢; exact k _ _ _ _ _ l13 S3 yL h3
  · exact h3.elim
noncomputable def zcd (K : PySem.W.Frag) (Ta : TEW) (f : Str) : TEW := fun ρ O R => Ta ρ O fun x O1 => match x with
  | .own a => ∃ C dx fs, O1 a = some (.ins C dx fs) ∧ Cls K C ∧ Uh K C f ∧ ∃ w, fs.lookup f = some w ∧ R w O1
  | _ => False
noncomputable def Kr (K : PySem.W.Frag) (Ta Tv : TEW) (f : Str) : TSW := fun D ρ O => Tv ρ O fun y O1 => Ta ρ O1 fun x O2 => match x with
  | .own a => ∃ C dx fs, O2 a = some (.ins C dx fs) ∧ Cls K C ∧ Uh K C f ∧ fs.length < 1000 ∧ D.nx ρ (updO O2 a (.ins C dx (zbW f y fs)))
  | _ => False
noncomputable def UM (Td Ty : TEW) : TEW := fun ρ O R => Td ρ O fun x O1 => Ty ρ O1 fun y O2 => match x, Ve y with
  | .own a, some k => ∃ kvs, O2 a = some (.dK kvs) ∧ ∃ w, zdx kvs k = some w ∧ R w O2
  | _, _ => False
noncomputable def UN (Td Ty Tv : TEW) : TSW := fun D ρ O => Tv ρ O fun w O1 => Td ρ O1 fun x O2 => Ty ρ O2 fun y O3 => match x, Ve y with
  | .own a, some k => ∃ kvs, O3 a = some (.dK kvs) ∧ kvs.length < 1000 ∧ D.nx ρ (updO O3 a (.dK (zc2 kvs k w)))
  | _, _ => False
noncomputable def vI2 (g : Int → Int → Int) : List W → OM → WK → Prop := fun xs O R => match xs with
  | [.d (.int i), .d (.int j)] => R (.d (.int (g i j))) O
  | _ => False
theorem zda {g : Int → Int → Int} : RefC K (fun xs H Q => ∃ i j, xs = [.int i, .int j] ∧ Q (.int (g i j)) H) (vI2 g) := zdw.weak fun x O R h => by
  unfold vI2 at h
  split at h
  · exact ⟨_, _, rfl, h⟩
  · exact h.elim
end
end L2
namespace L2
open PySem PySem.Spec PyProof.Rows
section
variable {X : Cx}
theorem u8 : ∀ {zs : List Str} {us : List Value}, Vals (zs.map V.str) us → StrsAre us zs
  | [], _, .nil => .nil
  | z :: zs, _, .cons r t => by
    obtain ⟨k, rfl⟩ := r
    exact .cons z k (u8 t)
noncomputable def Vh (K : PySem.W.Frag) : V → List V → Hp → VK → Prop := fun x xs H Q => ∃ sep a zs, x = .str sep ∧ xs = [.ref a] ∧ SqL K H a (zs.map .str) ∧ sep.length ≤ 16 ∧ (zs.map (·.length)).sum + zs.length ≤ 1048576 ∧ Q (.str (Txt.join sep zs)) H
theorem zat : MtR X "str.join" (Vh X.K) := by
  intro pins s σ H x xs v us Q I rx r h
  obtain ⟨sep, a, zs, rfl, rfl, hq, hs, hw, q⟩ := h
  obtain ⟨u, rfl, ru⟩ := r.one
  cases ru
  obtain ⟨t, rfl⟩ := rx
  obtain ⟨its, rv, p, hz⟩ := I.list hq
  exact join_listW p.isList (u8 rv) hs hw fun t' k => ⟨.str _, H, I.tok _, ⟨_, rfl⟩, q⟩
theorem kP : ∀ {bs : List Bool} {us : List Value} {i : Nat} {v : Value}, Vals (bs.map V.bl) us → us[i]? = some v → ∃ b, bs[i]? = some b ∧ v = .bool b
  | [], _, _, _, .nil, e => by simp at e
  | b :: bs, _, 0, v, .cons r t, e => ⟨b, rfl, by simp at e; subst e; exact r⟩
  | b :: bs, _, i + 1, v, .cons r t, e => by
    simp only [List.getElem?_cons_succ] at e ⊢
    exact kP t e
theorem Vi (bs : List Bool) : ((List.range bs.length).all fun i => (bs[i]?).getD true) = bs.all id := by
  induction bs with
  | nil => rfl
  | cons b bs ih => simp only [List.length_cons, List.range_succ_eq_map, List.all_cons, List.all_map]; rw [← ih]; rfl
noncomputable def Jq (K : PySem.W.Frag) : List V → Hp → VK → Prop := fun xs H Q => ∃ a, ∃ bs : List Bool, xs = [.ref a] ∧ SqL K H a (bs.map .bl) ∧ Q (.bl (bs.all id)) H
theorem UO (hc : X.calm = true) : zJ X (.builtin "all") (Jq X.K) := by
  intro pins s σ H xs us Q I r h
  obtain ⟨a, bs, rfl, hq, q⟩ := h
  obtain ⟨u, rfl, ru⟩ := r.one
  cases ru
  obtain ⟨its, rv, p, hz⟩ := I.list hq
  have hl := p.isList
  have hlt : a < s.heap.objs.size := by obtain ⟨_, e, _⟩ := hl; exact Heap.lt_size e
  have len := rv.length
  rw [List.length_map] at len
  refine call_all_walk (wpAny_pyIter_list hl ?_)
  refine ⟨_, _, _, _, _, _, fun i => (bs[i]?).getD true, rfl, Walks.list (A := X.A.in1) (I.ok.hd hc) _ a (Nat.ne_of_lt hlt) _, ⟨⟨_, Heap.get?_push_size _ rfl, rfl, rfl⟩, hl.push _⟩, fun i v s1 Q1 E1 hP hQ => ?_, fun h1 tk hk => ?_⟩
  · obtain ⟨b, e, rfl⟩ := kP rv (by simpa using hP)
    simp only [e, Option.getD_some] at hQ
    exact wpAny_truthy_bool hQ
  · have e := Vi bs
    rw [len] at e
    rw [show ((List.range its.toArray.size).all fun i => (bs[i]?).getD true) = bs.all id by simpa using e]
    exact ⟨.bl _, H, I.kept (t' := tk) (LSm.kept_iter hk), rfl, q⟩
noncomputable def UP : V → List V → Hp → VK → Prop := fun x xs H Q => ∃ z y, x = .str z ∧ xs = [.str y] ∧ (y.length == 0) = false ∧ z.length ≤ 100000 ∧ ∀ p, H p = none → Q (.ref p) (upd H p (.lst ((Txt.split z y).map .str)))
theorem kQ : ∀ {l : List (Str × Tok)} {zs : List Str}, l.map (·.1) = zs → Vals (zs.map V.str) (strValues l)
  | [], _, rfl => .nil
  | (z, t) :: l, _, rfl => .cons ⟨t, rfl⟩ (kQ rfl)
theorem jd : MtR X "str.split" UP := by
  intro pins s σ H x xs v us Q I rx r h
  obtain ⟨z, y, rfl, rfl, hy, hz, q⟩ := h
  obtain ⟨u, rfl, t, rfl⟩ := xt r
  obtain ⟨t', rfl⟩ := rx
  have hsz : z.length ≤ sizeLine := by rw [sizeLine_eq]; omega
  have hsp := split_le z y
  have fin : ∀ (l : List (Str × Tok)) (k : Tok), l.map (·.1) = Txt.split z y → EP X pins σ Q (.ref s.heap.objs.size) { s with toks := k, heap := s.heap.push { cls := .type "list", data := .seq (strValues l).toArray } } := fun l k e => by
    have len : ((Txt.split z y).map V.str).length ≤ sizeLine := by rw [List.length_map, sizeLine_eq]; omega
    exact ⟨.ref s.heap.objs.size, _, I.laid (t' := k) (o := .lst ((Txt.split z y).map .str)) (fun b ob g => Heap.get?_push_of_some _ g) (Nat.le_refl _) ⟨len, strValues l, 0, kQ e, Heap.get?_push_size _ rfl⟩, rfl, q _ (I.hok.fresh (Nat.le_refl _))⟩
  cases h1 : (decide (z.length < y.length) || decide (Builtin.Str.strKind z < Builtin.Str.strKind y)) with
  | true =>
    have e : [z] = Txt.split z y := (if_pos h1).symm
    refine call_meets PySem.F.slot_str_split (typeIs_str _ _ _) PySem.F.entry_str_split ?_ (meets_str_split_cannot_occur z y t' t h1) ?_
    · exact PySem.F.args_str_split_2 _ _
    · exact fin [(z, t')] s.toks e
  | false =>
    cases hf : (Builtin.Str.occurrences z y 0 z.length (z.length + 1)).isEmpty with
    | true =>
      have e : [z] = Txt.split z y := ((if_neg (by rw [h1]; decide)).trans (if_pos hf)).symm
      refine call_meets PySem.F.slot_str_split (typeIs_str _ _ _) PySem.F.entry_str_split ?_ (meets_str_split_not_found z y t' t h1 hy hf) ?_
      · exact PySem.F.args_str_split_2 _ _
      · exact fin [(z, t')] s.toks e
    | false =>
      have e : Builtin.Str.partsBetween z (Builtin.Str.occurrences z y 0 z.length (z.length + 1)) y.length = Txt.split z y := ((if_neg (by rw [h1]; decide)).trans (if_neg (by rw [hf]; decide))).symm
      refine call_meets PySem.F.slot_str_split (typeIs_str _ _ _) PySem.F.entry_str_split ?_ (meets_str_split_sep z y t' t h1 hy hf hsz ?_) ?_
      · exact PySem.F.args_str_split_2 _ _
      · rw [e, sizeLine_eq]; omega
      · show wants _ _ _ _
        rw [strsFrom_eq]
        exact fin (numbered s.toks _) _ ((numbered_texts _ _).trans e)
end
end L2
namespace L2
open PySem PySem.Spec PyProof.Rows
section
variable {X : Cx} {K : PySem.W.Frag}
theorem jC (h : X.K = K) (hc : X.calm = true) : zJ X (.builtin "all") (Jq K) := by subst h; exact UO hc
theorem xN (h : X.K = K) : MtR X "str.join" (Vh K) := by subst h; exact zat
noncomputable def yr (z : Str) : W := .d (.str z)
theorem kR {Γ : Gh} : ∀ {zs : List Str} {vs : List V}, relWs K Γ (zs.map yr) vs → vs = zs.map V.str
  | [], _, .nil => rfl
  | z :: zs, _, .cons r t => by rw [kR t, show _ = V.str z from r]; rfl
theorem jD {Γ : Gh} : ∀ {bs : List Bool} {vs : List V}, relWs K Γ (bs.map fun b => .d (.bool b)) vs → vs = bs.map V.bl
  | [], _, .nil => rfl
  | b :: bs, _, .cons r t => by rw [jD t, show _ = V.bl b from r]; rfl
noncomputable def Ks : W → List W → OM → WK → Prop := fun x xs O R => ∃ sep w, ∃ zs : List Str, x = .d (.str sep) ∧ xs = [w] ∧ zq O w = some (zs.map yr) ∧ sep.length ≤ 16 ∧ (zs.map (·.length)).sum + zs.length ≤ 1048576 ∧ R (.d (.str (Txt.join sep zs))) O
theorem zce {T : String} : RefM K T (Vh K) Ks := by
  rintro Γ O H x v xs vs S rx rs Q R ⟨sep, w, zs, rfl, rfl, e, h1, h2, h⟩ k
  cases rs with
  | cons rw t =>
    cases t
    obtain ⟨a, us, rfl, q1, q2⟩ := z0 S rw e
    rw [kR q2] at q1
    exact ⟨sep, a, zs, rx, rfl, q1, h1, h2, k _ _ _ _ _ (Le.refl _) S uj h⟩
noncomputable def UQ : W → List W → OM → WK → Prop := fun x xs O R => ∃ z y, x = .d (.str z) ∧ xs = [.d (.str y)] ∧ (y.length == 0) = false ∧ z.length ≤ 100000 ∧ R (.d (.list ((Txt.split z y).map .str))) O
theorem vR {Z : Hp} : ∀ zs : List Str, Reps K Z (zs.map PyData.str) (zs.map V.str)
  | [] => rfl
  | z :: zs => ⟨_, _, rfl, rfl, vR zs⟩
theorem zau {T : String} : RefM K T UP UQ := by
  rintro Γ O H x v xs vs S rx rs Q R ⟨z, y, rfl, rfl, h1, h2, h⟩ k
  cases rs with
  | cons rw t =>
    cases t
    refine ⟨z, y, rx, by rw [show _ = V.str y from rw], h1, h2, fun p hp => ?_⟩
    obtain ⟨Γ', le, S', r'⟩ := u4 S (vR (Txt.split z y)) hp
    exact k _ _ _ _ _ le S' r' h
noncomputable def Kt : List W → OM → WK → Prop := fun xs O R => ∃ w, ∃ bs : List Bool, xs = [w] ∧ zq O w = some (bs.map fun b => .d (.bool b)) ∧ R (.d (.bool (bs.all id))) O
theorem zdb : RefC K (Jq K) Kt := by
  rintro Γ O H xs vs S rs Q R ⟨w, bs, rfl, e, h⟩ k
  cases rs with
  | cons rw t =>
    cases t
    obtain ⟨a, us, rfl, q1, q2⟩ := z0 S rw e
    rw [jD q2] at q1
    exact ⟨a, bs, rfl, q1, k _ _ _ _ _ (Le.refl _) S yL h⟩
end
end L2
namespace L2
open PySem PySem.Spec PyProof.Rows
section
variable {X : Cx} {K : PySem.W.Frag}
noncomputable def zcf : R2 := fun x y H Q => ∃ i j, x = .str i ∧ y = .str j ∧ Q (.bl (!decide (j.cps.toList < i.cps.toList))) H
theorem kS : OpR X (compareOp .LtE) zcf := by
  intro pins s σ H x y v u Q I rx ry h
  obtain ⟨i, j, rfl, rfl, q⟩ := h
  obtain ⟨t, rfl⟩ := rx
  obtain ⟨t', rfl⟩ := ry
  exact PySem.P.le_str (zA I q rfl)
noncomputable def zcg : R2W := fun x y O R => ∃ i j, x = .d (.str i) ∧ y = .d (.str j) ∧ R (.d (.bool (!decide (j.cps.toList < i.cps.toList)))) O
theorem zdc : RefR K zcf zcg := by
  rintro Γ O H x y v u S rx ry Q R ⟨i, j, rfl, rfl, h⟩ k
  exact ⟨i, j, rx, ry, k _ _ _ _ _ (Le.refl _) S yL h⟩
noncomputable def Xw : W → List W → OM → WK → Prop := fun x xs O R => ∃ l b ws us, x = .own l ∧ xs = [.own b] ∧ O l = some (.lst ws) ∧ O b = some (.lst us) ∧ ws.length + us.length ≤ 100000 ∧ R (.d .none) (updO O l (.lst (ws ++ us)))
theorem Jr {T : String} : RefM K T Xj Xw := by
  rintro Γ O H x v xs vs S rx rs Q R ⟨l, b, ws, us, rfl, rfl, hl, hb, hn, h⟩ k
  cases rs with
  | cons rw t =>
    cases t
    cases (show v = .ref l from rx)
    obtain ⟨_, vl, q1, q2⟩ := S.o _ _ hl
    obtain ⟨_, vb, p1, p2⟩ := S.o _ _ hb
    refine ⟨l, b, vl, vb, rfl, by rw [show _ = V.ref b from rw], q1, p1, by rw [← Paired.length q2, ← Paired.length p2, sizeLine_eq]; omega, ?_⟩
    exact k _ _ _ _ _ (Le.refl _) (S.put (oo := .lst _) hl (by intro _ h; cases h) (by intro _ h; cases h) ⟨_, zg, Paired.appP q2 p2⟩) yX h
end
end L2
namespace L2
open PySem PySem.Spec PyProof.Rows
section
variable {K : PySem.W.Frag}
end
end L2
namespace L2
open PySem PySem.Spec PyProof.Rows
section
variable {K : PySem.W.Frag}
theorem je {Z : Hp} {ds : List PyData} {vs : List V} (h : Reps K Z ds vs) : ∀ n, Reps K Z (List.replicate n ds).flatten (List.replicate n vs).flatten
  | 0 => rfl
  | n + 1 => by
    rw [List.replicate_succ, List.replicate_succ, List.flatten_cons, List.flatten_cons]
    exact jc h (je h n)
noncomputable def Z0 (Ta : TEW) : TEW := fun ρ O R => Ta ρ O fun x O1 => ∃ a ws, x = .own a ∧ O1 a = some (.lst ws) ∧ R (.d (.bool true)) O1
theorem zav {ta : TE} {Ta : TEW} (h : zn K ta Ta) : zn K (tCB (Jj K) (xu ta (xu (tC (.ty "list")) uW))) (Z0 Ta) := by
  intro Γ O H ρ σ S r Q R hT k
  refine h _ _ _ _ _ S r _ _ hT fun Γ1 O1 H1 x v l1 S1 rx h1 => ?_
  obtain ⟨a, ws, rfl, ho, h1⟩ := h1
  cases (show v = .ref a from rx)
  obtain ⟨_, vs, q1, _⟩ := S1.o _ _ ho
  exact ⟨_, _, _, true, rfl, .lst q1, rfl, k _ _ _ _ _ l1 S1 yL h1⟩
end
theorem Xx (c d : Nat) : decide ((⟨#[c]⟩ : Str).cps.toList < (⟨#[d]⟩ : Str).cps.toList) = decide (c < d) := by
  apply decide_eq_decide.mpr
  show [c] < [d] ↔ c < d
  constructor
  · intro h
    cases h with
    | rel h => exact h
    | cons h => cases h
  · intro h
    exact List.Lex.rel h
end L2
namespace L2
open PySem PySem.Spec PyProof.Rows
structure ST where
  w : Nat
  h : Nat
  row : Int
  col : Int
  late : Bool
  ink : Int
  wrap : Bool
  putting : Bool
  home : Bool
  top : Int
  bottom : Int
  left : Int
  right : Int
  last : PyData
  pic : PF
noncomputable def fldW (p st kp : Addr) (S : ST) : List (Str × W) := [("picture", .own p), ("wide", .d (.int S.w)), ("high", .d (.int S.h)), ("row", .d (.int S.row)), ("column", .d (.int S.col)), ("late", .d (.bool S.late)), ("ink", .d (.int S.ink)), ("wrap", .d (.bool S.wrap)), ("putting", .d (.bool S.putting)), ("home", .d (.bool S.home)), ("top", .d (.int S.top)), ("bottom", .d (.int S.bottom)), ("left", .d (.int S.left)), ("right", .d (.int S.right)), ("stops", .own st), ("kept", .own kp), ("last", .d S.last)]
noncomputable def ownW (q : Addr) (S : ST) : List (Key × W) := [(Sum.inr "wide", .d (.int S.w)), (Sum.inr "high", .d (.int S.h)), (Sum.inr "top", .d (.int S.top)), (Sum.inr "left", .d (.int S.left)), (Sum.inr "cells", .own q), (Sum.inr "bottom", .d (.int S.bottom)), (Sum.inr "right", .d (.int S.right)), (Sum.inr "home", .d (.bool S.home)), (Sum.inr "putting", .d (.bool S.putting)), (Sum.inr "wrap", .d (.bool S.wrap)), (Sum.inr "last", .d S.last), (Sum.inr "late", .d (.bool S.late)), (Sum.inr "ink", .d (.int S.ink)), (Sum.inr "row", .d (.int S.row)), (Sum.inr "column", .d (.int S.col))]
section
variable {p st kp q : Addr} {S : ST}
end
structure StAt (O : OM) (C x dx p st kp : Addr) (S : ST) : Prop where
  x : O x = some (.ins C dx (fldW p st kp S))
  p : O p = some (.grid (genG S.h S.w S.pic))
  st : O st = some (.dK ((List.range ((S.w - 1) / 4)).map fun i => (Sum.inl (4 + (i : Nat) * 4 : Int), W.d (.bool true))))
  kp : O kp = some (.lst [])
theorem neW {O : OM} {a b : Addr} {o u : OO} (h : O a = some o) (h' : O b = some u) (d : o ≠ u) : a ≠ b := by
  intro e; subst e; rw [h] at h'; exact d (Option.some.inj h')
section
variable {O O' : OM} {C x dx p st kp : Addr} {S : ST}
theorem StAt.xp (s : StAt O C x dx p st kp S) : x ≠ p := neW s.x s.p (by intro h; cases h)
theorem StAt.xs (s : StAt O C x dx p st kp S) : x ≠ st := neW s.x s.st (by intro h; cases h)
theorem StAt.xk (s : StAt O C x dx p st kp S) : x ≠ kp := neW s.x s.kp (by intro h; cases h)
theorem StAt.ps (s : StAt O C x dx p st kp S) : p ≠ st := neW s.p s.st (by intro h; cases h)
theorem StAt.pk (s : StAt O C x dx p st kp S) : p ≠ kp := neW s.p s.kp (by intro h; cases h)
noncomputable def But (O O' : OM) (x p : Addr) : Prop := ∀ b, b ≠ x → b ≠ p → O' b = O b
theorem But.refl : But O O x p := fun _ _ _ => rfl
theorem But.trans {O1 O2 : OM} (a : But O O1 x p) (b : But O1 O2 x p) : But O O2 x p := fun c h1 h2 => (b c h1 h2).trans (a c h1 h2)
theorem But.up {o : OO} : But O (updO O p o) x p := fun _ _ h => zi h
theorem StAt.pic (s : StAt O C x dx p st kp S) {f : PF} : StAt (updO O p (.grid (genG S.h S.w f))) C x dx p st kp { S with pic := f } :=
  ⟨by rw [zi s.xp]; exact s.x, zj, by rw [zi (Ne.symm s.ps)]; exact s.st, by rw [zi (Ne.symm s.pk)]; exact s.kp⟩
theorem StAt.of (s : StAt O C x dx p st kp S) {S' : ST} (hx : O' x = some (.ins C dx (fldW p st kp S'))) (hp : O' p = some (.grid (genG S'.h S'.w S'.pic))) (hw : S'.w = S.w) (b : But O O' x p) : StAt O' C x dx p st kp S' :=
  ⟨hx, hp, by rw [b _ (Ne.symm s.xs) (Ne.symm s.ps), hw]; exact s.st, by rw [b _ (Ne.symm s.xk) (Ne.symm s.pk)]; exact s.kp⟩
theorem StAt.keep (s : StAt O C x dx p st kp S) {y z : Addr} (b : But O O' y z) (h1 : x ≠ y) (h2 : x ≠ z) (h3 : p ≠ y) (h4 : p ≠ z) (h5 : st ≠ y) (h6 : st ≠ z) (h7 : kp ≠ y) (h8 : kp ≠ z) : StAt O' C x dx p st kp S :=
  ⟨by rw [b _ h1 h2]; exact s.x, by rw [b _ h3 h4]; exact s.p, by rw [b _ h5 h6]; exact s.st, by rw [b _ h7 h8]; exact s.kp⟩
end
structure Bds (S : ST) : Prop where
  w1 : 1 ≤ S.w
  w2 : S.w ≤ 24
  h1 : 1 ≤ S.h
  h2 : S.h ≤ 12
  r0 : 0 ≤ S.row
  r1 : S.row < S.h
  c0 : 0 ≤ S.col
  c1 : S.col < S.w
  t0 : 0 ≤ S.top
  tb : S.top ≤ S.bottom
  b1 : S.bottom < S.h
  l0 : 0 ≤ S.left
  lr : S.left ≤ S.right
  rr : S.right < S.w
  i0 : 0 ≤ S.ink
  i1 : S.ink < 512
end L2
namespace L2
open PySem PySem.Spec PyProof.Rows
theorem zaw {p q : Prop} [Decidable p] [Decidable q] {a b : Prop} : (if p then (if q then a else b) else b) = (if p ∧ q then a else b) := by
  by_cases hp : p <;> by_cases hq : q <;> simp [hp, hq]
noncomputable def zch : PyData → Prop
  | .none => True
  | .int i => 0 ≤ i ∧ i ≤ 1000000
  | _ => False
theorem zch.cs {n : PyData} (h : zch n) : n = .none ∨ ∃ i, n = .int i ∧ 0 ≤ i ∧ i ≤ 1000000 := by
  cases n <;> first | exact .inl rfl | exact h.elim | exact .inr ⟨_, rfl, h.1, h.2⟩
noncomputable def eL (S : ST) : Int := if S.left ≤ S.col then S.left else 0
noncomputable def eR (S : ST) : Int := if S.col ≤ S.right then S.right else S.w - 1
noncomputable def zdd (i : Int) : Cel := (Str.ofString " ", i)
noncomputable def atF (f : PF) (i j : Int) : Cel := f i.toNat j.toNat
noncomputable def mvP (f : PF) (ink t b l r dn ac : Int) : PF := fun i j =>
  if t ≤ (i : Int) ∧ (i : Int) ≤ b ∧ l ≤ (j : Int) ∧ (j : Int) ≤ r then (if t ≤ i + dn ∧ i + dn ≤ b ∧ l ≤ j + ac ∧ j + ac ≤ r then atF f (i + dn) (j + ac) else zdd ink) else f i j
noncomputable def mvS (t b l r dn ac : Int) (S : ST) : ST := { S with pic := mvP S.pic S.ink t b l r dn ac }
noncomputable def zci (s : Int) (S : ST) : ST := { mvS S.row S.row S.col (eR S) 0 s S with late := false }
noncomputable def zde (S : ST) : ST := { S with col := eL S, late := false }
end L2
namespace L2
open PySem PySem.Spec PyProof.Rows
end L2
namespace L2
open PySem PySem.Spec PyProof.Rows
end L2
namespace L2
open PySem PySem.Spec PyProof.Rows
noncomputable abbrev Rw6 := List Cel
noncomputable def yn (r : Rw6) : PyData := .list (r.map zF)
noncomputable def Js (c : Cel) : Prop := ∃ k, 32 ≤ k ∧ k ≤ 126 ∧ c.1 = ⟨#[k]⟩
noncomputable def okR (r : Rw6) : Prop := ∀ c ∈ r, Js c
end L2
namespace L2
open PySem PySem.Spec PyProof.Rows
noncomputable def cA (s : Rw6) (j : Nat) : Cel := s.getD j (⟨#[]⟩, 0)
theorem zdf {s : Rw6} {j : Nat} (h : j < s.length) : s[j]? = some (cA s j) := by
  unfold cA
  rw [List.getD_eq_getElem?_getD, List.getElem?_eq_getElem h]
  rfl
end L2
namespace L2
open PySem PySem.Spec PyProof.Rows
noncomputable abbrev T3 := Nat × Nat × Int
noncomputable def gSt (f : Nat → Int) : Nat → List T3 × Nat
  | 0 => ([], 0)
  | i + 1 => if f (i + 1) = f (gSt f i).2 then gSt f i else ((gSt f i).1 ++ [((gSt f i).2, i + 1, f (gSt f i).2)], i + 1)
noncomputable def stN (f : Nat → Int) : Nat → List T3
  | 0 => []
  | n + 1 => (gSt f n).1 ++ [((gSt f n).2, n + 1, f (gSt f n).2)]
noncomputable def Cov (f : Nat → Int) : Nat → List T3 → Nat → Prop
  | a, [], b => a = b
  | a, t :: l, b => t.1 = a ∧ t.1 < t.2.1 ∧ (∀ j, t.1 ≤ j → j < t.2.1 → f j = t.2.2) ∧ Cov f t.2.1 l b
theorem Cov.app {f : Nat → Int} : ∀ {l : List T3} {a b c : Nat} {m : List T3}, Cov f a l b → Cov f b m c → Cov f a (l ++ m) c
  | [], a, b, c, m, h, h' => by cases h; exact h'
  | t :: l, a, b, c, m, ⟨h1, h2, h3, h4⟩, h' => ⟨h1, h2, h3, Cov.app h4 h'⟩
theorem jE (f : Nat → Int) : ∀ i, Cov f 0 (gSt f i).1 (gSt f i).2 ∧ (gSt f i).2 ≤ i ∧ ∀ j, (gSt f i).2 ≤ j → j ≤ i → f j = f (gSt f i).2
  | 0 => ⟨rfl, Nat.le_refl _, fun j _ h => by cases Nat.le_zero.mp h; rfl⟩
  | i + 1 => by
    obtain ⟨h1, h2, h3⟩ := jE f i
    unfold gSt
    split
    · rename_i e
      refine ⟨h1, by omega, fun j a b => ?_⟩
      rcases Nat.lt_or_ge i j with z | z
      · have : j = i + 1 := by omega
        subst this; exact e
      · exact h3 j a z
    · refine ⟨h1.app ⟨rfl, by show (gSt f i).2 < i + 1; omega, fun j a b => h3 j a (by have : j < i + 1 := b; omega), rfl⟩, Nat.le_refl _, fun j a b => ?_⟩
      have : j = i + 1 := Nat.le_antisymm b a
      subst this; rfl
theorem qE (f : Nat → Int) : ∀ n, Cov f 0 (stN f n) n
  | 0 => rfl
  | n + 1 => by
    obtain ⟨h1, h2, h3⟩ := jE f n
    exact h1.app ⟨rfl, by show (gSt f n).2 < n + 1; omega, fun j a b => h3 j a (by have : j < n + 1 := b; omega), rfl⟩
theorem Cov.le {f : Nat → Int} : ∀ {l : List T3} {a b : Nat}, Cov f a l b → a + l.length ≤ b
  | [], a, b, h => by cases h; exact Nat.le_refl _
  | t :: l, a, b, ⟨h1, h2, h3, h4⟩ => by have := h4.le; simp only [List.length_cons]; omega
theorem Cov.mem {f : Nat → Int} : ∀ {l : List T3} {a b : Nat}, Cov f a l b → ∀ t ∈ l, a ≤ t.1 ∧ t.1 < t.2.1 ∧ t.2.1 ≤ b ∧ ∀ j, t.1 ≤ j → j < t.2.1 → f j = t.2.2
  | t :: l, a, b, ⟨h1, h2, h3, h4⟩, u, hu => by
    have := h4.le
    rcases List.mem_cons.mp hu with rfl | hu
    · exact ⟨by omega, h2, by omega, h3⟩
    · obtain ⟨q1, q2, q3, q4⟩ := h4.mem u hu
      exact ⟨by omega, q2, q3, q4⟩
theorem qF (f : Nat → Int) (n : Nat) : (stN f n).length ≤ n := by have := (qE f n).le; omega
theorem Xy {f : Nat → Int} {n : Nat} {t : T3} (h : t ∈ stN f n) : t.1 < t.2.1 ∧ t.2.1 ≤ n ∧ f t.1 = t.2.2 := by
  obtain ⟨_, h2, h3, h4⟩ := (qE f n).mem t h
  exact ⟨h2, h3, h4 _ (Nat.le_refl _) h2⟩
end L2
namespace L2
open PySem PySem.Spec PyProof.Rows
theorem zdg {T1 T2 T3 U : TSW} {D : EndsW} {ρ : WS} {O : OM} (J : WS → OM → Prop) (ht : ∀ R : WS → OM → Prop, (∀ ρ' O', J ρ' O' → R ρ' O') → xK T1 (xK T2 T3) { D with nx := R } ρ O) (hu : ∀ ρ' O', J ρ' O' → U D ρ' O') : xK T1 (xK T2 (xK T3 U)) D ρ O := ht (U D) hu
theorem Ku {S : ST} (h : Bds S) : 0 ≤ eL S ∧ eL S < S.w := by
  have := h.l0; have := h.lr; have := h.rr; have := h.w1
  unfold eL; split <;> omega
theorem Bds.left {S : ST} (h : Bds S) : Bds (zde S) := { h with c0 := (Ku h).1, c1 := (Ku h).2 }
theorem Bds.cells {S : ST} {s : Int} (h : Bds S) : Bds (zci s S) := { h with }
end L2
namespace L2
open PySem PySem.Spec PyProof.Rows
end L2
namespace L2
open PySem
end L2
namespace L2
open PySem PySem.Spec PyProof.Rows
end L2
namespace L2
open PySem PySem.Spec PyProof.Rows
section
variable {X : Cx} {K : PySem.W.Frag}
end
end L2
namespace L2
open PySem PySem.Spec PyProof.Rows
structure OwnAt (O : OM) (d q : Addr) (S : ST) : Prop where
  d : O d = some (.dK (ownW q S))
  q : O q = some (.grid (genG S.h S.w S.pic))
noncomputable def PicOk (S : ST) : Prop := ∀ i j, i < S.h → j < S.w → okC (S.pic i j)
noncomputable def InWin (S : ST) : Prop := S.home = true → S.top ≤ S.row ∧ S.row ≤ S.bottom ∧ S.left ≤ S.col ∧ S.col ≤ S.right
section
variable {O O' : OM} {d q : Addr} {S : ST}
theorem OwnAt.dq (s : OwnAt O d q S) : d ≠ q := neW s.d s.q (by intro h; cases h)
theorem OwnAt.pic (s : OwnAt O d q S) {f : PF} : OwnAt (updO O q (.grid (genG S.h S.w f))) d q { S with pic := f } :=
  ⟨by rw [zi s.dq]; exact s.d, zj⟩
theorem OwnAt.keep (s : OwnAt O d q S) {y z : Addr} (b : But O O' y z) (h1 : d ≠ y) (h2 : d ≠ z) (h3 : q ≠ y) (h4 : q ≠ z) : OwnAt O' d q S :=
  ⟨by rw [b _ h1 h2]; exact s.d, by rw [b _ h3 h4]; exact s.q⟩
end
structure Both (O : OM) (C x dx p st kp d q : Addr) (S S' : ST) : Prop where
  s : StAt O C x dx p st kp S
  o : OwnAt O d q S'
  ds : d ≠ st
  pq : p ≠ q
section
variable {O O' : OM} {C x dx p st kp d q : Addr} {S S' S1 : ST}
theorem Both.dx' (b : Both O C x dx p st kp d q S S') : d ≠ x := neW b.o.d b.s.x (by intro h; cases h)
theorem Both.dp (b : Both O C x dx p st kp d q S S') : d ≠ p := neW b.o.d b.s.p (by intro h; cases h)
theorem Both.qx (b : Both O C x dx p st kp d q S S') : q ≠ x := neW b.o.q b.s.x (by intro h; cases h)
theorem Both.qs (b : Both O C x dx p st kp d q S S') : q ≠ st := neW b.o.q b.s.st (by intro h; cases h)
theorem Both.qk (b : Both O C x dx p st kp d q S S') : q ≠ kp := neW b.o.q b.s.kp (by intro h; cases h)
theorem Both.st' (b : Both O C x dx p st kp d q S S') (h : StAt O' C x dx p st kp S1) (k : But O O' x p) : Both O' C x dx p st kp d q S1 S' :=
  ⟨h, b.o.keep k b.dx' b.dp b.qx (Ne.symm b.pq), b.ds, b.pq⟩
end
noncomputable def zdh (S : ST) : Prop := PicOk S ∧ SeqAt.shaped S.last = true ∧ PyData.eqv S.last S.last = true
structure Drawn (S : ST) : Prop where
  b : Bds S
  ok : PicOk S
  win : InWin S
  last : S.last = .none ∨ ∃ c, S.last = .str c ∧ S.pic S.row.toNat S.col.toNat = (c, S.ink)
  late : S.late = true → S.col = eR S ∧ S.last ≠ .none
theorem zcj {c : Str} (h : PyData.strOk c = true) : SeqAt.shaped (.str c) = true ∧ PyData.eqv (.str c) (.str c) = true :=
  ⟨by simp [SeqAt.shaped, PyData.canLay0, PyData.depth, h], by simp [PyData.eqv]⟩
theorem Drawn.all {S : ST} (h : Drawn S) : zdh S := by
  refine ⟨h.ok, ?_⟩
  rcases h.last with e | ⟨c, e, e2⟩
  · rw [e]; exact ⟨rfl, rfl⟩
  · have h0 := h.ok S.row.toNat S.col.toNat (by have := h.b.r0; have := h.b.r1; omega) (by have := h.b.c0; have := h.b.c1; omega)
    rw [e2] at h0
    rw [e]
    exact zcj h0
end L2
namespace L2
end L2
namespace L2
open PySem PySem.Spec PyProof.Rows
noncomputable def Old (O O' : OM) : Prop := ∀ b, O b ≠ none → O' b = O b
theorem Old.refl {O : OM} : Old O O := fun _ _ => rfl
theorem Old.upd {O O' : OM} {a : Addr} {o : OO} (h : Old O O') (ha : O a = none) : Old O (updO O' a o) := fun b hb => by
  rw [zi (fun e => by rw [e] at hb; exact hb ha)]; exact h b hb
theorem Old.new {O O' : OM} {a : Addr} (h : Old O O') (ha : O' a = none) : O a = none := by
  cases e : O a with
  | none => rfl
  | some o => rw [h a (by rw [e]; simp)] at ha; rw [ha] at e; cases e
section
variable {q : Addr} {S : ST} {a b : Int} {u : Bool} {l : PyData}
end
end L2
namespace L2
open PySem PySem.Spec PyProof.Rows
theorem PicOk.set {S : ST} {i j : Nat} {c : Str} {k : Int} (h : PicOk S) (hc : PyData.strOk c = true) : PicOk { S with pic := setF S.pic i j (c, k) } := by
  intro x y hx hy
  show okC (setF S.pic i j (c, k) x y)
  unfold setF
  split
  · exact hc
  · exact h x y hx hy
end L2
namespace L2
open PySem PySem.Spec PyProof.Rows
end L2
namespace L2
open PySem PySem.Spec PyProof.Rows
end L2
namespace L2
open PySem PySem.Spec PyProof.Rows
theorem zC {a b : Str} : (a ++ b).cps.toList = a.cps.toList ++ b.cps.toList := by
  show (a.cps ++ b.cps).toList = _
  simp
theorem kb (z : Str) : z.length = z.cps.toList.length := rfl
theorem xO (sep : Str) (zs : List Str) : Txt.join sep zs = Str.join sep zs := eq_of_beq (join_plain_closes sep zs)
theorem uz (sep : Str) : ∀ zs : List Str, (Str.join sep zs).cps.toList.length ≤ (zs.map (·.length)).sum + zs.length * sep.length
  | [] => Nat.zero_le _
  | [p] => by
    show p.cps.toList.length ≤ ([p].map (·.length)).sum + _
    rw [← kb]
    simp
  | p :: q :: r => by
    have ih := uz sep (q :: r)
    rw [join_cons_cons, zC, zC, List.length_append, List.length_append, ← kb p, ← kb sep]
    simp only [List.map_cons, List.sum_cons, List.length_cons, Nat.add_mul] at ih ⊢
    omega
theorem kT : ∀ cs : List Nat, (Str.join ⟨#[]⟩ (cs.map fun c => ⟨#[c]⟩)).cps.toList = cs
  | [] => rfl
  | [c] => rfl
  | c :: d :: r => by
    have ih := kT (d :: r)
    show (Str.join ⟨#[]⟩ (⟨#[c]⟩ :: ⟨#[d]⟩ :: r.map _)).cps.toList = _
    rw [join_cons_cons, zC, zC]
    have ih : (Str.join ⟨#[]⟩ (⟨#[d]⟩ :: r.map fun c => ⟨#[c]⟩)).cps.toList = d :: r := ih
    rw [ih]
    rfl
theorem yU {α : Type} (l : List α) (g : α → W) (F : W → Option PyData) (k : α → PyData) (h : ∀ a, F (g a) = some (k a)) : (l.map g).filterMap F = l.map k := by
  induction l with
  | nil => rfl
  | cons a l ih => rw [List.map_cons, List.filterMap_cons, h a, ih]; rfl
end L2
namespace L2
open PySem PySem.Spec PyProof.Rows
theorem Old.del {O O' : OM} {a : Addr} (h : Old O O') (ha : O a = none) : Old O (L2.del O' a) := fun b hb => by
  rw [xw (O := O') (fun e => hb (by rw [e]; exact ha))]
  exact h b hb
noncomputable def zv (r : Rw6) : Nat → Int := fun j => (cA r j).2
noncomputable def spD (t : T3) : PyData := .tuple [.int t.1, .int t.2.1, .int t.2.2]
noncomputable def sp2 (t : T3) : PyData := .tuple [.int t.1, .int t.2.1]
noncomputable def noS : Str := ⟨#[]⟩
noncomputable def kc : SpW := fun ws O R => ∃ r : Rw6, ws = [.d (yn r)] ∧ r.length ≤ 24 ∧ okR r ∧ R (.d (.str (Txt.join noS (r.map (·.1))))) O
noncomputable def Z1 : SpW := fun ws O R => ∃ l : List Int, ws = [.d (.list (l.map .int))] ∧ 1 ≤ l.length ∧ l.length ≤ 24 ∧ ∀ O', Old O O' → R (.d (.list ((stN (fun j => l.getD j 0) l.length).map sp2))) O'
noncomputable def Zq : SpW := fun ws O R => ∃ r : Rw6, ws = [.d (yn r)] ∧ 1 ≤ r.length ∧ r.length ≤ 24 ∧ ∀ p O', O p = none → Old O O' → O' p = some (.lst (((stN (zv r) r.length).map spD).map .d)) → R (.own p) O'
theorem Vj {α : Type} {g : α → PyData} {l : List α} (h : ∀ a ∈ l, PyData.canLay0 (g a) = true ∧ PyData.depth (g a) ≤ 50) : PyData.canLayAll0 (l.map g) = true ∧ PyData.depthAll (l.map g) ≤ 50 := by
  induction l with
  | nil => exact ⟨rfl, Nat.zero_le _⟩
  | cons a l ih =>
    obtain ⟨h1, h2⟩ := ih fun x hx => h x (List.mem_cons_of_mem _ hx)
    obtain ⟨q1, q2⟩ := h a List.mem_cons_self
    refine ⟨?_, ?_⟩
    · simp only [List.map_cons, PyData.canLayAll0, q1, h1, Bool.and_self]
    · simp only [List.map_cons, PyData.depthAll]
      omega
theorem Vk {α : Type} {g : α → PyData} {l : List α} (h : ∀ a ∈ l, PyData.eqv (g a) (g a) = true) : PyData.eqvAll (l.map g) (l.map g) = true := by
  induction l with
  | nil => rfl
  | cons a l ih => simp only [List.map_cons, PyData.eqvAll, h a List.mem_cons_self, Bool.true_and]; exact ih fun x hx => h x (List.mem_cons_of_mem _ hx)
end L2
namespace L2
open PySem PySem.Spec PyProof.Rows
end L2
namespace L2
open PySem PySem.Spec PyProof.Rows
end L2
namespace L2
open PySem PySem.Spec PyProof.Rows
section
variable {X : Cx} {K : PySem.W.Frag}
end
end L2
namespace L2
open PySem PySem.Spec PyProof.Rows
end L2
namespace L2
open PySem PySem.Spec PyProof.Rows
section
variable {X : Cx} {K : PySem.W.Frag}
end
end L2
namespace L2
open PySem PySem.Spec PyProof.Rows
section
variable {X : Cx} {k : Nat} {sp : Sp} {C : Addr} {x : Str} {p pos : Pos}
end
theorem xP {a b : Str} (h : a.cps.toList = b.cps.toList) : a = b := by
  obtain ⟨a⟩ := a
  obtain ⟨b⟩ := b
  exact congrArg Str.mk (Array.ext' h)
noncomputable abbrev sgS (c : Nat) : Str := ⟨#[c]⟩
noncomputable abbrev sgW (c : Nat) : W := .d (.str (sgS c))
noncomputable def Kv (c : Nat) : Prop := (97 ≤ c ∧ c ≤ 122) ∨ (65 ≤ c ∧ c ≤ 90)
noncomputable def Kw (c : Nat) : Prop := 48 ≤ c ∧ c ≤ 57
instance (c : Nat) : Decidable (Kv c) := by unfold Kv; infer_instance
instance (c : Nat) : Decidable (Kw c) := by unfold Kw; infer_instance
noncomputable def okI (d : PyData) : Prop := PyData.canLay0 d = true ∧ PyData.depth d ≤ 50 ∧ PyData.eqv d d = true
theorem Jt {ds : List PyData} (h : ∀ d ∈ ds, okI d) : PyData.canLay0 (.list ds) = true ∧ PyData.depth (.list ds) ≤ 51 ∧ PyData.eqv (.list ds) (.list ds) = true := by
  obtain ⟨h1, h2⟩ := Vj (g := fun d => d) (l := ds) fun d hd => ⟨(h d hd).1, (h d hd).2.1⟩
  have h3 := Vk (g := fun d => d) (l := ds) fun d hd => (h d hd).2.2
  rw [List.map_id'] at h1 h2 h3
  exact ⟨by simp only [PyData.canLay0]; exact h1, by simp only [PyData.depth]; omega, by simp only [PyData.eqv]; exact h3⟩
structure RdAt (C : Addr) (O : OM) (x dx p : Addr) (b : List Nat) : Prop where
  x : O x = some (.ins C dx [(Str.ofString "begun", .own p)])
  p : O p = some (.lst (b.map sgW))
theorem RdAt.ne {C : Addr} {O : OM} {x dx p : Addr} {b : List Nat} (h : RdAt C O x dx p b) : x ≠ p := fun e => by
  have := h.x; rw [e, h.p] at this; cases this
end L2
namespace L2
open PySem PySem.Spec PyProof.Rows
section
variable {K : PySem.W.Frag}
theorem Sim.shrink {Γ : Gh} {O O' : OM} {H : Hp} (S : Sim K Γ O' H) (h : Old O O') : Sim K Γ O H := by
  have k1 : ∀ {x : Addr} {o : OO}, O x = some o → O' x = some o := fun {x o} e => by rw [h x (by rw [e]; simp)]; exact e
  have k0 : ∀ {x : Addr}, O' x = none → O x = none := fun {x} e => by
    cases q : O x with
    | none => rfl
    | some o => rw [k1 q] at e; cases e
  refine ⟨S.z, fun x o e => ?_, S.gd, S.f, fun x o e hn => S.gn x o (k1 e) hn, S.fg, fun x o e => ⟨(S.fd x o e).1, k0 (S.fd x o e).2.1, fun b rows rs e1 => (S.fd x o e).2.2 b rows rs (k1 e1)⟩, fun x b ra rb rs ss r e1 e2 => S.u x b ra rb rs ss r (k1 e1) (k1 e2)⟩
  obtain ⟨h1, h2⟩ := S.o _ _ (k1 e)
  refine ⟨h1, h2.keep (Le.refl _) rfl rfl fun rs r hg ⟨rows, hrw⟩ hr => ?_⟩
  subst hrw
  obtain ⟨_, q2, _⟩ := S.rowIn (k1 e) hg hr
  refine ⟨rfl, rfl, ?_⟩
  rw [q2]
  exact k0 q2
theorem FnOk.forget {P : Program} {w : World} {mg : Str → Option Value} {base : Heap} {CX : CXT} {k : Nat} {f : Addr} {fd : FuncData} {ps : List Str} {s s' : SpW} (F : FnOk P w K mg base CX k f fd ps (zb K s'))
    (h : ∀ ws O R, s ws O R → s' ws O fun w O' => Old O O' ∧ R w O) : FnOk P w K mg base CX k f fd ps (zb K s) :=
  F.imp fun vs H Q E ⟨Γ, O, ws, R, S, r, hs, k⟩ => ⟨Γ, O, ws, _, S, r, h ws O R hs, fun Γ' O' H' w v l S' rw ⟨ho, hR⟩ => k Γ' O H' w v l (S'.shrink ho) rw hR⟩
section
variable {X : Cx} {N : List Str} {n : Nat} {js : List Nat} {scope : Scope} {cl : List (Str × Addr)} {elt tg iter : Expr} {ifs : List Expr} {pos : Pos} {wi : TI} {g : TG} {tt : TT} {te : TE}
end
end
end L2
namespace L2
open PySem PySem.Spec PyProof.Rows
end L2
namespace L2
open PySem PySem.Spec PyProof.Rows
end L2
namespace L2
open PySem PySem.Spec PyProof.Rows
theorem RdAt.old {C : Addr} {O O' : OM} {x dx p : Addr} {b : List Nat} (r : RdAt C O x dx p b) (h : Old O O') : RdAt C O' x dx p b := ⟨by rw [h x (by rw [r.x]; simp)]; exact r.x, by rw [h p (by rw [r.p]; simp)]; exact r.p⟩
end L2
namespace L2
open PySem PySem.Spec PyProof.Rows
end L2
namespace L2
open PySem PySem.Spec PyProof.Rows
section
variable {X : Cx} {K : PySem.W.Frag}
noncomputable def Z2 (C : TTW) (TB : TSW) : TSW := fun D ρ O => ∃ Pv : Nat → WS → OM → Prop, (∃ m, Pv m ρ O) ∧ ∀ m ρ O, Pv m ρ O →
  C ρ O fun b O1 => if b = true then TB { D with nx := fun ρ' O' => ∃ m', m' < m ∧ Pv m' ρ' O', ct := fun ρ' O' => ∃ m', m' < m ∧ Pv m' ρ' O', bk := D.nx } ρ O1 else D.nx ρ O1
theorem UR {c : TT} {tb : TS} {C : TTW} {TB : TSW} (hc : yK K c C) (hb : RefS K tb TB) : RefS K (V7 c tb) (Z2 C TB) := by
  intro Γ O H ρ σ D DW S r hT e
  obtain ⟨Pv, ⟨m0, p0⟩, turn⟩ := hT
  refine ⟨fun m σ' H' => ∃ Γ' O' ρ', Le Γ Γ' ∧ Sim K Γ' O' H' ∧ relR K Γ' ρ' σ' ∧ Pv m ρ' O', ⟨m0, Γ, O, ρ, Le.refl _, S, r, p0⟩, ?_⟩
  rintro m σ' H' ⟨Γ', O', ρ', l', S', r', p'⟩
  refine hc _ _ _ _ _ S' r' _ _ (turn m ρ' O' p') fun Γ1 O1 H1 b l1 S1 h1 => ?_
  cases b with
  | true =>
    rw [if_pos rfl] at h1 ⊢
    refine ⟨fun σ2 H2 => ∃ Γ2 O2 ρ2, Le Γ Γ2 ∧ Sim K Γ2 O2 H2 ∧ relR K Γ2 ρ2 σ2 ∧ ∃ m', m' < m ∧ Pv m' ρ2 O2, fun σ2 H2 ⟨Γ2, O2, ρ2, l2, S2, r2, m', hm, p2⟩ => ⟨m', hm, Γ2, O2, ρ2, l2, S2, r2, p2⟩, ?_⟩
    have l01 := l'.trans l1
    exact hb _ _ _ _ _ _ _ S1 (r'.mono l1) h1 ⟨fun Γ4 O4 H4 ρ4 σ4 l4 S4 r4 h4 => ⟨Γ4, O4, ρ4, l01.trans l4, S4, r4, h4⟩, fun Γ4 O4 H4 w v l4 => e.rt _ _ _ _ _ (l01.trans l4), fun Γ4 O4 H4 ρ4 σ4 l4 => e.nx _ _ _ _ _ (l01.trans l4), fun Γ4 O4 H4 ρ4 σ4 l4 S4 r4 h4 => ⟨Γ4, O4, ρ4, l01.trans l4, S4, r4, h4⟩⟩
  | false =>
    rw [if_neg (by decide)] at h1 ⊢
    exact e.nx _ _ _ _ _ (l'.trans l1) S1 (r'.mono l1) h1
theorem Xz {C : TTW} {TB : TSW} {D : EndsW} {ρ : WS} {O : OM} (Pv : Nat → WS → OM → Prop) (m : Nat) (h0 : Pv m ρ O)
    (hs : ∀ m ρ O, Pv m ρ O → ∀ R : WS → OM → Prop, (∀ m' ρ' O', m' < m → Pv m' ρ' O' → R ρ' O') → C ρ O fun b O1 => if b = true then TB { D with nx := R, ct := R, bk := D.nx } ρ O1 else D.nx ρ O1) : Z2 C TB D ρ O :=
  ⟨Pv, ⟨m, h0⟩, fun m ρ O p => hs m ρ O p _ fun m' ρ' O' hm hp => ⟨m', hm, hp⟩⟩
noncomputable def frz (w : W) (O : OM) : Option (PyData × OM) := match w with
  | .d x => some (x, O)
  | .own a => match O a with
    | some (.lst ws) => (zX ws).map fun ds => (.list ds, del O a)
    | _ => none
  | _ => none
noncomputable def frzs : List W → OM → Option (List PyData × OM)
  | [], O => some ([], O)
  | w :: ws, O => match frz w O with
    | some (d, O1) => (frzs ws O1).map fun q => (d :: q.1, q.2)
    | none => none
end
end L2
namespace L2
open PySem PySem.Spec PyProof.Rows
end L2
namespace L2
open PySem PySem.Spec PyProof.Rows
theorem US {C : TTW} {TB : TSW} {D : EndsW} {ρ : WS} {O : OM} (Pv : Nat → WS → OM → Prop) (J : WS → OM → Prop) (m : Nat) (h0 : Pv m ρ O)
    (hs : ∀ m ρ O, Pv m ρ O → ∀ R S : WS → OM → Prop, (∀ m' ρ' O', m' < m → Pv m' ρ' O' → R ρ' O') → (∀ ρ' O', J ρ' O' → S ρ' O') → C ρ O fun b O1 => if b = true then TB { D with nx := R, ct := R, bk := S } ρ O1 else S ρ O1)
    (hx : ∀ ρ' O', J ρ' O' → D.nx ρ' O') : Z2 C TB D ρ O :=
  Xz Pv m h0 fun m ρ O p R hR => hs m ρ O p R D.nx hR hx
end L2
namespace L2
open PySem PySem.Spec PyProof.Rows
theorem Vl {ds : List PyData} (h : ∀ d ∈ ds, okI d) : SeqAt.shaped (.list ds) = true ∧ PyData.eqv (.list ds) (.list ds) = true := by
  obtain ⟨q1, q2, q3⟩ := Jt h
  refine ⟨?_, q3⟩
  unfold SeqAt.shaped
  rw [Bool.and_eq_true]
  exact ⟨q1, decide_eq_true (by omega)⟩
structure Two (C : Addr) (O : OM) (xb db pb : Addr) (bb : List Nat) (xr dr pr : Addr) (br : List Nat) : Prop where
  b : RdAt C O xb db pb bb
  r : RdAt C O xr dr pr br
  nx : xb ≠ xr
  np : pb ≠ pr
section
variable {C : Addr} {O O' : OM} {xb db pb xr dr pr p' q : Addr} {bb br br' bb' : List Nat}
theorem Two.xp (h : Two C O xb db pb bb xr dr pr br) : xb ≠ pr ∧ xr ≠ pb := ⟨fun e => (by have := h.b.x; rw [e, h.r.p] at this; cases this), fun e => (by have := h.r.x; rw [e, h.b.p] at this; cases this)⟩
theorem Two.old (h : Two C O xb db pb bb xr dr pr br) (ho : Old O O') : Two C O' xb db pb bb xr dr pr br := ⟨h.b.old ho, h.r.old ho, h.nx, h.np⟩
noncomputable def Kx (q xb pb xr pr : Addr) : Prop := q ≠ xb ∧ q ≠ pb ∧ q ≠ xr ∧ q ≠ pr
theorem Two.apart (h : Two C O xb db pb bb xr dr pr br) (hq : O q = none) : Kx q xb pb xr pr :=
  ⟨fun e => (by rw [e, h.b.x] at hq; cases hq), fun e => (by rw [e, h.b.p] at hq; cases hq), fun e => (by rw [e, h.r.x] at hq; cases hq), fun e => (by rw [e, h.r.p] at hq; cases hq)⟩
theorem Two.upd (h : Two C O xb db pb bb xr dr pr br) (hq : Kx q xb pb xr pr) (o : OO) : Two C (updO O q o) xb db pb bb xr dr pr br := by
  obtain ⟨q1, q2, q3, q4⟩ := hq
  exact ⟨⟨by rw [zi (Ne.symm q1)]; exact h.b.x, by rw [zi (Ne.symm q2)]; exact h.b.p⟩, ⟨by rw [zi (Ne.symm q3)]; exact h.r.x, by rw [zi (Ne.symm q4)]; exact h.r.p⟩, h.nx, h.np⟩
end
end L2
namespace L2
open PySem PySem.Spec PyProof.Rows
section
variable {K : PySem.W.Frag}
theorem Sim.unframeW {Γ : Gh} {O : OM} {H : Hp} (S : Sim K Γ O H) {a : Addr} {us : List W} {vs : List V} {F : Hp} (hF : Γ.F = upd F a (.lst vs)) (h0 : F a = none) (hr : relWs K Γ us vs) :
    O a = none ∧ Sim K ⟨Γ.Z, Γ.G, F⟩ (updO O a (.lst us)) H := by
  have hFa : Γ.F a = some (.lst vs) := by rw [hF, zg]
  obtain ⟨hz, hO, hrow⟩ := S.fd _ _ hFa
  have kF : ∀ b o, F b = some o → b ≠ a ∧ Γ.F b = some o := fun b o e => by
    have hb : b ≠ a := fun z => by rw [z, h0] at e; cases e
    exact ⟨hb, by rw [hF, zd hb]; exact e⟩
  have k1 : ∀ {x : Addr} {rx : List (List PyData)}, updO O a (.lst us) x = some (.grid rx) → O x = some (.grid rx) := fun {x rx} h => by
    by_cases hx : x = a
    · subst hx; rw [zj] at h; cases h
    · rw [zi hx] at h; exact h
  refine ⟨hO, ⟨S.z, fun b oo e => ?_, S.gd, fun b u e => S.f _ _ (kF b u e).2, fun b oo e hn => ?_, fun b o e => S.fg b o (kF b o e).2, fun b o e => ⟨(S.fd b o (kF b o e).2).1, by rw [zi (kF b o e).1]; exact (S.fd b o (kF b o e).2).2.1, fun c rows rs e1 => (S.fd b o (kF b o e).2).2.2 c rows rs (k1 e1)⟩, fun x y ra rb rs ss r e1 e2 => S.u x y ra rb rs ss r (k1 e1) (k1 e2)⟩⟩
  · by_cases hb : b = a
    · subst hb
      rw [zj] at e
      cases e
      exact ⟨hz, vs, S.f _ _ hFa, Paired.mapP hr fun _ _ z => z.setF⟩
    · rw [zi hb] at e
      obtain ⟨q1, q2⟩ := S.o _ _ e
      refine ⟨q1, (q2.keep (Le.refl _) rfl rfl fun rs r hg ⟨rows, hrw⟩ hm => ⟨rfl, rfl, ?_⟩).setF⟩
      subst hrw
      exact zi (fun z => hrow b rows rs e hg (by rw [← z]; exact hm))
  · by_cases hb : b = a
    · rw [hb]; exact S.fg _ _ hFa
    · rw [zi hb] at e; exact S.gn b oo e hn
noncomputable def Ju (wi : TI) (n : Nat) (js : List Nat) (g : TG) (tt : TT) (te : TE) : TE := tLc wi n js g tt te
section
variable {X : Cx} {N : List Str} {n : Nat} {js : List Nat} {scope : Scope} {cl : List (Str × Addr)} {elt tg iter : Expr} {ifs : List Expr} {pos : Pos} {wi : TI} {g : TG} {tt : TT} {te : TE}
theorem zck (L : LcOk X N n js scope cl) (hc : X.calm = true) (hi : PI X tg iter wi)
    (hg : ∀ C s0 H0 fp0, PG (zN X N scope cl C s0 H0 fp0) tg g) (ht : ∀ C s0 H0 fp0, PTs (zN X N scope cl C s0 H0 fp0) ifs tt) (he : ∀ C s0 H0 fp0, PE (zN X N scope cl C s0 H0 fp0) elt te)
    (hs : ∀ x, foldedSetIterable iter X.env x = pure x := by intro _; rfl) : PE X (.ListComp elt [⟨tg, iter, ifs, 0⟩] scope pos) (Ju wi n js g tt te) := yD L hc hi hg ht he hs
theorem UT {i : Nat} {x : Str} {pos' spos : Pos} (hN : X.N.Nodup) (hx : X.N[i]? = some x) (hk : X.env.scope.names.lookup x = some .local) (L : LcOk X N n js scope cl) (hc : X.calm = true) (hi : PI X tg iter wi)
    (hg : ∀ C s0 H0 fp0, PG (zN X N scope cl C s0 H0 fp0) tg g) (ht : ∀ C s0 H0 fp0, PTs (zN X N scope cl C s0 H0 fp0) ifs tt) (he : ∀ C s0 H0 fp0, PE (zN X N scope cl C s0 H0 fp0) elt te)
    (hsw : swapsWith (.ListComp elt [⟨tg, iter, ifs, 0⟩] scope pos) (some (.Name x pos')) spos.line X.env = pure true := by rfl)
    (hs : ∀ x, foldedSetIterable iter X.env x = pure x := by intro _; rfl) : PS X (.Assign [.Name x pos'] (.ListComp elt [⟨tg, iter, ifs, 0⟩] scope pos) spos) (qU (Ju wi n js g tt te) (vQ i)) := ZP hN hx hk L hc hi hg ht he hsw hs
end
noncomputable def zcl (Wi : TIW) (n : Nat) (js : List Nat) (G : TGW) (T : TTW) (E : TEW) : TEW := fun ρ O R => Wi ρ O fun ws keep O1 => ws.length ≤ 100000 ∧ ∃ J : Nat → List W → OM → Prop, J 0 [] O1 ∧ (∀ i vs O', J i vs O' → keep O') ∧
  (∀ i w vs O', ws[i]? = some w → J i vs O' → ∀ us : WS, us.length = n → Zp G T E n (yf js ρ) w (us ++ yf js ρ) O' fun y O2 => J (i + 1) (vs ++ y.toList) O2) ∧ ∀ vs O', J ws.length vs O' → ∀ p, O' p = none → R (.own p) (updO O' p (.lst vs))
theorem zax {wi : TI} {Wi : TIW} {n : Nat} {js : List Nat} {g : TG} {G : TGW} {tt : TT} {T : TTW} {te : TE} {E : TEW} (hi : v7 K wi Wi) (hg : RefG K g G) (ht : yK K tt T) (he : zn K te E) : zn K (Ju wi n js g tt te) (zcl Wi n js G T E) := by
  intro Γ O H ρ σ S r Q R hT k
  refine hi _ _ _ _ _ S r _ _ hT fun Γ1 O1 H1 J0 ws keep l1 S1 ok h1 => ?_
  obtain ⟨hlen, J, hJ0, hJk, hF, hR⟩ := h1
  intro D hD
  have hFD : Γ1.F D = none := S1.f.free hD
  have r1 := u5 (r.mono l1) n js
  refine ⟨fun i m σ' H' => i ≤ ws.length ∧ m = ws.length - i ∧ ∃ Γ' O' ρ' us vs, Same Γ1.Z Γ'.Z ∧ (∀ a rs, Γ1.G a = some rs → ∃ more, Γ'.G a = some (rs ++ more)) ∧ Γ'.F = upd Γ1.F D (.lst vs) ∧ Sim K Γ' O' H' ∧ relR K Γ' ρ' σ' ∧
    ρ'.length = n + (yf js ρ).length ∧ ρ'.drop n = yf js ρ ∧ J i us O' ∧ us.length ≤ i ∧ relWs K Γ' us vs, ⟨_, Nat.zero_le _, rfl, _, O1, _, [], [], Same.refl _, fun a rs h => ⟨[], by rw [List.append_nil]; exact h⟩, rfl, S1.frameNew hD (.lst []), r1.setF, by simp, by simp, hJ0, Nat.le_refl _, .nil⟩, ?_⟩
  rintro i m σ' H' ⟨hi, rfl, Γ', O', ρ', us, vs, z', g', f', S', r', n1, n2, hJ, hul, rp⟩
  obtain ⟨ok1, ok2⟩ := ok i Γ' O' H' z' g' S' (hJk _ _ _ hJ)
  have hvl : vs.length ≤ i := by rw [← Paired.length rp]; exact hul
  by_cases hlt : i < ws.length
  · obtain ⟨go, y⟩ := ok1 _ (List.getElem?_eq_getElem hlt)
    refine .inr ⟨go, fun σ2 H2 => ∃ Γ2 O2 ρ2 us2 vs2, Same Γ1.Z Γ2.Z ∧ (∀ a rs, Γ1.G a = some rs → ∃ more, Γ2.G a = some (rs ++ more)) ∧ Γ2.F = upd Γ1.F D (.lst vs2) ∧ Sim K Γ2 O2 H2 ∧ relR K Γ2 ρ2 σ2 ∧
      ρ2.length = n + (yf js ρ).length ∧ ρ2.drop n = yf js ρ ∧ J (i + 1) us2 O2 ∧ us2.length ≤ i + 1 ∧ relWs K Γ2 us2 vs2, fun σ2 H2 h => ⟨ws.length - (i + 1), by omega, hlt, rfl, h⟩, fun x H2 hy => ?_⟩
    obtain ⟨Γ2, l2, S2, rx⟩ := y x H2 hy
    obtain ⟨ul, hus, rfl⟩ := jb n1 n2
    refine hg _ _ _ _ _ _ _ S2 (r'.mono l2) rx _ _ (hF i _ us O' (List.getElem?_eq_getElem hlt) hJ ul hus) fun Γ3 O3 H3 ρ3 σ3 l3 S3 r3 h3 => ?_
    obtain ⟨⟨m1, m2⟩, h3⟩ := h3
    refine ht _ _ _ _ _ S3 r3 _ _ h3 fun Γ4 O4 H4 b l4 S4 h4 => ?_
    have l24 := (l2.trans l3).trans l4
    have up : ∀ Γ5, Le Γ' Γ5 → Same Γ1.Z Γ5.Z ∧ (∀ a rs, Γ1.G a = some rs → ∃ more, Γ5.G a = some (rs ++ more)) := fun Γ5 l => ⟨z'.trans l.z, fun a rs h => by
      obtain ⟨m, e⟩ := g' a rs h
      obtain ⟨m2, e2⟩ := l.g a _ e
      exact ⟨m ++ m2, by rw [← List.append_assoc]; exact e2⟩⟩
    cases b with
    | true =>
      rw [if_pos rfl] at h4 ⊢
      refine he _ _ _ _ _ S4 (r3.mono l4) _ _ h4 fun Γ5 O5 H5 w5 v5 l5 S5 r5 h5 => ?_
      have l25 := l24.trans l5
      have f5 : Γ5.F = upd Γ1.F D (.lst vs) := by rw [l25.f, f']
      have fD : Γ5.F D = some (.lst vs) := by rw [f5, zg]
      refine ⟨vs, S5.f _ _ fD, (by rw [sizeLine_eq]; omega), ?_⟩
      obtain ⟨u1, u2⟩ := up Γ5 l25
      refine ⟨⟨Γ5.Z, Γ5.G, upd Γ5.F D (.lst (vs ++ [v5]))⟩, O5, ρ3, us ++ [w5], vs ++ [v5], u1, u2, ?_, S5.framePut fD _, ((r3.mono l4).mono l5).setF, m1, m2, h5, by rw [List.length_append]; simpa using hul, ?_⟩
      · show upd Γ5.F D _ = _
        rw [f5, jX]
      · exact Paired.appP (Paired.mapP rp fun _ _ z => (z.mono l25).setF) (.cons r5.setF .nil)
    | false =>
      rw [if_neg (by decide)] at h4 ⊢
      obtain ⟨u1, u2⟩ := up Γ4 l24
      refine ⟨Γ4, O4, ρ3, us, vs, u1, u2, by rw [l24.f, f'], S4, r3.mono l4, m1, m2, by simpa using h4, by omega, Paired.mapP rp fun _ _ z => z.mono l24⟩
  · have hi2 : i = ws.length := by omega
    subst hi2
    refine .inl ⟨ok2 rfl, ?_⟩
    obtain ⟨q1, q2⟩ := S'.unframeW f' hFD rp
    exact k ⟨Γ'.Z, Γ'.G, Γ1.F⟩ _ _ _ _ (l1.trans ⟨rfl, z', g'⟩) q2 xJ (hR us O' hJ D q1)
noncomputable def qG (O : OM) : W → Option PyData
  | .d x => some x
  | .own a => match O a with
    | some (.lst ws) => (zX ws).map .list
    | _ => none
  | _ => none
noncomputable def xz (O : OM) : List W → Option (List PyData)
  | [] => some []
  | w :: ws => match qG O w, xz O ws with
    | some d, some ds => some (d :: ds)
    | _, _ => none
noncomputable def xA (O : OM) : W → Option PyData
  | .d x => some x
  | .own a => match O a with
    | some (.lst ws) => (xz O ws).map .list
    | some (.grid rows) => some (.list (rows.map .list))
    | _ => none
  | .row a i => j9 O (.row a i)
theorem UU {Γ : Gh} {O : OM} {H : Hp} {w : W} {v : V} {x : PyData} (S : Sim K Γ O H) (r : relW K Γ w v) (e : qG O w = some x) : Rep K H x v := by
  cases w with
  | d y => cases e; exact Rep.same S.z _ _ r
  | row _ _ => cases e
  | own a =>
    refine ja S r ?_
    simp only [qG] at e
    simp only [j9]
    split at e
    · rename_i ws h
      rw [h]
      exact e
    · cases e
theorem jF {Γ : Gh} {O : OM} {H : Hp} (S : Sim K Γ O H) : ∀ {ws : List W} {vs : List V} {ds : List PyData}, relWs K Γ ws vs → xz O ws = some ds → Reps K H ds vs
  | [], _, ds, r, e => by
    cases r
    cases e
    exact rfl
  | w :: ws, _, ds, r, e => by
    cases r with
    | cons rx t =>
      simp only [xz] at e
      split at e
      · rename_i d ds' e1 e2
        cases e
        exact ⟨_, _, rfl, UU S rx e1, jF S t e2⟩
      · cases e
theorem vd {Γ : Gh} {O : OM} {H : Hp} {w : W} {v : V} {x : PyData} (S : Sim K Γ O H) (r : relW K Γ w v) (e : xA O w = some x) : Rep K H x v := by
  cases w with
  | d y => cases e; exact Rep.same S.z _ _ r
  | row a i => exact ja S r e
  | own a =>
    simp only [xA] at e
    split at e
    · rename_i ws h
      cases (show v = .ref a from r)
      cases hd : xz O ws with
      | none => rw [hd] at e; cases e
      | some ds =>
        rw [hd] at e
        cases e
        obtain ⟨_, vs, h1, h2⟩ := S.o _ _ h
        exact ⟨a, vs, rfl, SqL.of h1, jF S h2 hd⟩
    · rename_i rows h
      refine ja S r ?_
      simp only [j9, h]
      exact e
    · cases e
noncomputable def Ky : R2W := fun x y O R => ∃ a b, xA O x = some a ∧ xA O y = some b ∧ SeqAt.shaped a = true ∧ SeqAt.shaped b = true ∧ R (.d (.bool (PyData.eqv a b))) O
noncomputable def Kz : R2W := fun x y O R => ∃ a b, xA O x = some a ∧ xA O y = some b ∧ SeqAt.shaped a = true ∧ SeqAt.shaped b = true ∧ R (.d (.bool (!PyData.eqv a b))) O
theorem zcm : RefR K (QP K) Ky := by
  rintro Γ O H x y v u S rx ry Q R ⟨a, b, e1, e2, s1, s2, h⟩ k
  exact ⟨a, b, vd S rx e1, vd S ry e2, s1, s2, k _ _ _ _ _ (Le.refl _) S yL h⟩
theorem zcn : RefR K (QQ K) Kz := by
  rintro Γ O H x y v u S rx ry Q R ⟨a, b, e1, e2, s1, s2, h⟩ k
  exact ⟨a, b, vd S rx e1, vd S ry e2, s1, s2, k _ _ _ _ _ (Le.refl _) S yL h⟩
theorem jG (O : OM) : ∀ ds : List PyData, xz O (ds.map .d) = some ds
  | [] => rfl
  | d :: ds => by simp only [List.map_cons, xz, qG, jG O ds]
end
end L2
namespace L2
open PySem PySem.Spec PyProof.Rows
section
variable {P : Program} {w : World} {K : PySem.W.Frag} {mg : Str → Option Value} {base : Heap}
theorem FunD.okX {x qual : Str} {st : Stmt} {ds : List Value} {f : Addr} {fd : FuncData} {N ps : List Str} {k : Nat} {sp : Sp} (F : FunD K x qual st ds f fd) (S : FnScope N ps (defScope st))
    (len : ∀ vs H Q E, sp vs H Q E → vs.length = ps.length)
    (hbody : ∀ (cdv : Value) (A : Around) (outer : List Env) (s : Shared) (H : Hp) (vs : List V) (Q : VK) (E : XK), Room k (A.deeper (envOfC qual (defScope st) s.heap.objs.size f cdv)) → sp vs H Q E →
      ∃ t, PSs (y6 (CX1 P w) P w K mg base N qual (defScope st) f cdv A outer s H E) (defBody st) t ∧ t { nx := fun _ H' => Q .non H', rt := Q } (L2.start N vs) H) : FnOk P w K mg base (CX1 P w) (k + 1) f fd ps sp := by
  obtain ⟨oc, od, kV, doc, pm, an, cdv, ct, osl, T, oT, n, rfl, lk, hcd, _, _⟩ := F.ex
  exact Zk lk hcd S len fun A outer s H vs Q E hr hsp => hbody cdv A outer s H vs Q E hr hsp
end
theorem Rd.but {H H' : Hp} {x a : Addr} {u : HO} {C dx : Addr} {fs : List (Str × V)} (hx : H x = some (.ins C dx fs)) (hk : ∀ b o, b ≠ x → H b = some o → H' b = some o) (hu : (∃ vs, u = .lst vs) ∨ (∃ vs, u = .tup vs) ∨ ∃ kvs, u = .dK kvs) (r : Rd H a u) : Rd H' a u := by
  have ne : a ≠ x := fun z => by
    subst z
    rcases r with r | ⟨o, r⟩
    · rw [hx] at r
      cases r
      rcases hu with ⟨_, e⟩ | ⟨_, e⟩ | ⟨_, e⟩ <;> cases e
    · rw [hx] at r; cases r
  rcases r with r | ⟨o, r⟩
  · exact .inl (hk a _ ne r)
  · exact .inr ⟨o, hk a _ ne r⟩
mutual
theorem Rep.but {K : PySem.W.Frag} {H H' : Hp} {x : Addr} {C dx : Addr} {fs : List (Str × V)} (hx : H x = some (.ins C dx fs)) (hk : ∀ b o, b ≠ x → H b = some o → H' b = some o) : ∀ (d : PyData) (v : V), Rep K H d v → Rep K H' d v
  | .none, _, h => h
  | .bool _, _, h => h
  | .int _, _, h => h
  | .str _, _, h => h
  | .list ds, _, ⟨a, xs, e, h1, h2⟩ => ⟨a, xs, e, h1.elim (fun r => .inl (r.but hx hk (.inl ⟨_, rfl⟩))) .inr, Reps.but hx hk ds xs h2⟩
  | .tuple ds, _, ⟨a, xs, e, h1, h2⟩ => ⟨a, xs, e, h1.elim (fun r => .inl (r.but hx hk (.inr (.inl ⟨_, rfl⟩)))) .inr, Reps.but hx hk ds xs h2⟩
  | .dict _, _, ⟨e0, a, e, h1⟩ => ⟨e0, a, e, h1.but hx hk (.inr (.inr ⟨_, rfl⟩))⟩
theorem Reps.but {K : PySem.W.Frag} {H H' : Hp} {x : Addr} {C dx : Addr} {fs : List (Str × V)} (hx : H x = some (.ins C dx fs)) (hk : ∀ b o, b ≠ x → H b = some o → H' b = some o) : ∀ (ds : List PyData) (vs : List V), Reps K H ds vs → Reps K H' ds vs
  | [], _, h => h
  | d :: ds, _, ⟨x', r, e, h1, h2⟩ => ⟨x', r, e, Rep.but hx hk d x' h1, Reps.but hx hk ds r h2⟩
end
end L2
namespace L2
open PySem PySem.Spec PyProof.Rows
end L2
namespace PySem.AutoListH
open AutoSeq1 (wpAny_loadPart')
open MeetsSeq MeetsSeq2 MeetsSeq3 SeqRoads2
theorem list_mul_sl (l : Addr) (items : Array Value) (n : Nat) (sl : Array (Option Value)) (x : Int) (u : Tok) (hc0 : ¬(!Builtin.List.listFitsIndex x) = true) (hc1 : ¬items.size * x.toNat > (2 ^ 63 - 1) / 8) (hc2 : ¬Builtin.List.listTooLong (items.size * x.toNat) = true) :
    Meets (Builtin.«list.__mul__» ⟨[.ref l, .int x u], []⟩) (fun _ R s => s.heap.get? l = some { cls := .type "list", dict := none, data := .seq items n, slots := sl } ∧ R (.ok (.ret (Value.ref s.heap.objs.size))) { s with heap := s.heap.push { cls := Value.type "list", data := Data.seq (List.foldl (fun x1 x2 => x1 ++ x2) #[] (List.replicate (if items.isEmpty = true then 0 else x.toNat) items)) }, toks := s.toks }) :=
  .of_wp fun prog w A R s h => by
    obtain ⟨hp, g, d, tk, os⟩ := s; obtain ⟨hl, h⟩ := h
    have hsz := joined_fits hc2
    wp_walk using wpAny_loadPart' hl; refine wpAny_ite_false (decide_eq_false (Nat.not_lt.mpr hsz)) ?_; wp_walk; exact ⟨_, rfl, h⟩
theorem rmul_sl (a : Int) (t : Tok) (l : Addr) (items : Array Value) (n : Nat) (sl : Array (Option Value)) :
    Meets (Builtin.«int.__rmul__» ⟨[.int a t, .ref l], []⟩) (fun _ R s => s.heap.get? l = some { cls := .type "list", dict := none, data := .seq items n, slots := sl } ∧ R (.ok (.ret Value.notImplemented)) s) :=
  .of_wp fun prog w A R s h => by obtain ⟨hp, g, d, tk, os⟩ := s; obtain ⟨hl, h⟩ := h; wp_walk; exact ⟨_, rfl, h⟩
end PySem.AutoListH
namespace L2
open PySem PySem.Spec PyProof.Rows
noncomputable abbrev YK := Addr → OM → Prop
noncomputable abbrev SpX := List W → OM → WK → YK → Prop
section
variable (K : PySem.W.Frag)
noncomputable def kd (Γ : Gh) (E : XK) (Y : YK) : Prop := ∀ Γ' O' H' C, Le Γ Γ' → Sim K Γ' O' H' → Y C O' → E (.ref C) none H'
noncomputable def zS (s : SpX) : Sp := fun vs H Q E => ∃ Γ O ws R Y, Sim K Γ O H ∧ relWs K Γ ws vs ∧ s ws O R Y ∧ (∀ Γ' O' H' w v, Le Γ Γ' → Sim K Γ' O' H' → relW K Γ' w v → R w O' → Q v H') ∧ kd K Γ E Y
noncomputable def yZ (t : XK → TS) (T : YK → TSW) : Prop := ∀ E Y Γ O H ρ σ D DW, Sim K Γ O H → relR K Γ ρ σ → kd K Γ E Y → T Y DW ρ O → EndsR K Γ D DW → t E D σ H
noncomputable def jH (t : XK → TE) (T : YK → TEW) : Prop := ∀ E Y Γ O H ρ σ, Sim K Γ O H → relR K Γ ρ σ → kd K Γ E Y → ∀ (Q : VK) (R : WK), T Y ρ O R → (∀ Γ' O' H' w v, Le Γ Γ' → Sim K Γ' O' H' → relW K Γ' w v → R w O' → Q v H') → t E σ H Q
end
section
variable {K : PySem.W.Frag}
theorem kd.mono {Γ Γ' : Gh} {E : XK} {Y : YK} (h : kd K Γ E Y) (l : Le Γ Γ') : kd K Γ' E Y := fun _ _ _ _ l2 => h _ _ _ _ (l.trans l2)
theorem zay {t : TS} {T : TSW} (h : RefS K t T) : yZ K (fun _ => t) (fun _ => T) := fun _ _ Γ O H ρ σ D DW S r _ hT e => h Γ O H ρ σ D DW S r hT e
theorem Jv {t : TE} {T : TEW} (h : zn K t T) : jH K (fun _ => t) (fun _ => T) := fun _ _ Γ O H ρ σ S r _ Q R hT k => h Γ O H ρ σ S r Q R hT k
theorem Jw {t u : XK → TS} {T U : YK → TSW} (h : yZ K t T) (g : yZ K u U) : yZ K (fun E => jZ (t E) (u E)) (fun Y => xK (T Y) (U Y)) := fun E Y Γ O H ρ σ D DW S r m hT e =>
  h E Y Γ O H ρ σ { D with nx := u E D } { DW with nx := U Y DW } S r m hT ⟨fun Γ' O' H' ρ' σ' l S' r' h' => g E Y _ _ _ _ _ _ _ S' r' (m.mono l) h' (e.mono l), e.rt, e.bk, e.ct⟩
theorem Jx {c : TT} {C : TTW} {t u : XK → TS} {T U : YK → TSW} (hc : yK K c C) (h : yZ K t T) (g : yZ K u U) : yZ K (fun E => XW c (t E) (u E)) (fun Y => ZX C (T Y) (U Y)) := fun E Y Γ O H ρ σ D DW S r m hT e => by
  refine hc _ _ _ _ _ S r _ _ hT fun Γ1 O1 H1 b l S1 h1 => ?_
  cases b with
  | true => rw [if_pos rfl] at h1 ⊢; exact h E Y _ _ _ _ _ _ _ S1 (r.mono l) (m.mono l) h1 (e.mono l)
  | false => rw [if_neg (by decide)] at h1 ⊢; exact g E Y _ _ _ _ _ _ _ S1 (r.mono l) (m.mono l) h1 (e.mono l)
noncomputable def UV (T : TAW) (C : Addr) : YK → TSW := fun Y _ ρ O => T ρ O fun ws O1 => ws.length ≤ 100 ∧ Y C O1
theorem Vm {t : TA} {T : TAW} {C : Addr} (h : yC K t T) : yZ K (fun E => ZS t C E) (UV T C) := by
  intro E Y Γ O H ρ σ D DW S r m hT e
  refine h _ _ _ _ _ S r _ _ hT fun Γ1 O1 H1 ws vs l1 S1 rs h1 => ?_
  refine ⟨by rw [← Paired.length rs, sizeLine_eq]; omega, m _ _ _ _ l1 S1 h1.2⟩
theorem UW {t : XK → TE} {T : YK → TEW} (h : jH K t T) : yZ K (fun E => jq (t E)) (fun Y => jA (T Y)) := fun E Y Γ O H ρ σ D DW S r m hT e =>
  h E Y _ _ _ _ _ S r m _ _ hT fun Γ1 O1 H1 w v l S1 r1 h1 => e.nx _ _ _ _ _ l S1 (r.mono l) h1
theorem Jy {t : XK → TE} {T : YK → TEW} (h : jH K t T) : yZ K (fun E => Zz (t E)) (fun Y => Vd (T Y)) := fun E Y Γ O H ρ σ D DW S r m hT e =>
  h E Y _ _ _ _ _ S r m _ _ hT fun Γ1 O1 H1 w v l S1 r1 h1 => e.rt _ _ _ _ _ l S1 r1 h1
noncomputable def Z3 (s : SpX) (dvs : List V) (T : TAW) (Y : YK) : TEW := fun ρ O R => T ρ O fun ws O1 => s (ws ++ dvs.map ofV) O1 R Y
theorem UX {s : SpX} {dvs : List V} {t : TA} {T : TAW} (h : yC K t T) (hd : dvs.all scV = true := by rfl) : jH K (fun E => xv (zS K s) dvs E t) (Z3 s dvs T) := by
  intro E Y Γ O H ρ σ S r0 m Q R hT k
  refine h Γ O H ρ σ S r0 _ _ hT fun Γ1 O1 H1 ws vs l1 S1 rs h1 => ?_
  exact ⟨Γ1, O1, _, R, Y, S1, Paired.appP rs (uy hd), h1, fun Γ2 O2 H2 w v l2 S2 r2 h2 => k _ _ _ _ _ (l1.trans l2) S2 r2 h2, m.mono l1⟩
noncomputable def Z4 (s : SpX) (dvs : List V) (T : TAW) : TEW := fun ρ O R => T ρ O fun ws O1 => s (ws ++ dvs.map ofV) O1 R fun _ _ => False
theorem UY {s : SpX} {dvs : List V} {t : TA} {T : TAW} (h : yC K t T) (hd : dvs.all scV = true := by rfl) : zn K (xv (zS K s) dvs E0 t) (Z4 s dvs T) := by
  intro Γ O H ρ σ S r0 Q R hT k
  refine h Γ O H ρ σ S r0 _ _ hT fun Γ1 O1 H1 ws vs l1 S1 rs h1 => ?_
  exact ⟨Γ1, O1, _, R, _, S1, Paired.appP rs (uy hd), h1, fun Γ2 O2 H2 w v l2 S2 r2 h2 => k _ _ _ _ _ (l1.trans l2) S2 r2 h2, fun _ _ _ _ _ _ z => z.elim⟩
theorem Vn {s : SpX} {t : TA} {T : TAW} (h : yC K t T) : zn K (xv (zS K s) [] E0 t) (Z4 s [] T) := UY h
theorem Vo {s : SpX} {t : TA} {T : TAW} (h : yC K t T) : jH K (fun E => xv (zS K s) [] E t) (Z3 s [] T) := UX h
variable {P : Program} {w : World} {mg : Str → Option Value} {base : Heap}
theorem Fun.okXV {x qual : Str} {st : Stmt} {f : Addr} {fd : FuncData} {N ps : List Str} {k : Nat} {s : SpX} {t : XK → TS} {T : YK → TSW} (F : Fun K x qual st f fd) (S : FnScope N ps (defScope st)) (len : ∀ ws O R Y, s ws O R Y → ws.length = ps.length)
    (hP : ∀ (cdv : Value) (A : Around) (outer : List Env) (sh : Shared) (H : Hp) (E : XK), Room k (A.deeper (envOfC qual (defScope st) sh.heap.objs.size f cdv)) → PSs (y6 (CX1 P w) P w K mg base N qual (defScope st) f cdv A outer sh H E) (defBody st) (t E))
    (hR : yZ K t T) (hb : ∀ ws O R Y, s ws O R Y → T Y { nx := fun _ O' => Clo R (.d .none) O', rt := Clo R } (yT N ws) O) : FnOk P w K mg base (CX1 P w) (k + 1) f fd ps (zS K s) := by
  refine F.okX S (fun vs H Q E h => ?_) (fun cdv A outer sh H vs Q E hr h => ?_)
  · obtain ⟨Γ, O, ws, R, Y, S1, r, hs, _⟩ := h
    rw [← Paired.length r]
    exact len ws O R Y hs
  · obtain ⟨Γ, O, ws, R, Y, S1, r, hs, kk, m⟩ := h
    refine ⟨t E, hP cdv A outer sh H E hr, hR E Y Γ O H _ _ _ _ S1 (xx r) m (hb ws O R Y hs) ⟨fun Γ' O' H' ρ' σ' l S' r' h' => ?_, fun Γ' O' H' w v l S' r' h' => ?_, fun _ _ _ _ _ _ _ _ h => h.elim, fun _ _ _ _ _ _ _ _ h => h.elim⟩⟩
    · exact xo S' yX h' fun Γ2 O2 H2 w v l2 => kk _ _ _ _ _ (l.trans l2)
    · exact xo S' r' h' fun Γ2 O2 H2 w v l2 => kk _ _ _ _ _ (l.trans l2)
theorem FunD.okXV {x qual : Str} {st : Stmt} {ds : List Value} {f : Addr} {fd : FuncData} {N ps : List Str} {k : Nat} {s : SpX} {t : XK → TS} {T : YK → TSW} (F : FunD K x qual st ds f fd) (S : FnScope N ps (defScope st)) (len : ∀ ws O R Y, s ws O R Y → ws.length = ps.length)
    (hP : ∀ (cdv : Value) (A : Around) (outer : List Env) (sh : Shared) (H : Hp) (E : XK), Room k (A.deeper (envOfC qual (defScope st) sh.heap.objs.size f cdv)) → PSs (y6 (CX1 P w) P w K mg base N qual (defScope st) f cdv A outer sh H E) (defBody st) (t E))
    (hR : yZ K t T) (hb : ∀ ws O R Y, s ws O R Y → T Y { nx := fun _ O' => Clo R (.d .none) O', rt := Clo R } (yT N ws) O) : FnOk P w K mg base (CX1 P w) (k + 1) f fd ps (zS K s) := by
  refine F.okX S (fun vs H Q E h => ?_) (fun cdv A outer sh H vs Q E hr h => ?_)
  · obtain ⟨Γ, O, ws, R, Y, S1, r, hs, _⟩ := h
    rw [← Paired.length r]
    exact len ws O R Y hs
  · obtain ⟨Γ, O, ws, R, Y, S1, r, hs, kk, m⟩ := h
    refine ⟨t E, hP cdv A outer sh H E hr, hR E Y Γ O H _ _ _ _ S1 (xx r) m (hb ws O R Y hs) ⟨fun Γ' O' H' ρ' σ' l S' r' h' => ?_, fun Γ' O' H' w v l S' r' h' => ?_, fun _ _ _ _ _ _ _ _ h => h.elim, fun _ _ _ _ _ _ _ _ h => h.elim⟩⟩
    · exact xo S' yX h' fun Γ2 O2 H2 w v l2 => kk _ _ _ _ _ (l.trans l2)
    · exact xo S' r' h' fun Γ2 O2 H2 w v l2 => kk _ _ _ _ _ (l.trans l2)
theorem Sim.grow {Γ : Gh} {O : OM} {H H' : Hp} (S : Sim K Γ O H) (h : Same H H') : Sim K Γ O H' := by
  refine ⟨fun b u e => h _ _ (S.z _ _ e), fun a oo e => ?_, fun a rs e => ?_, fun b u e => h _ _ (S.f _ _ e), S.gn, S.fg, S.fd, S.u⟩
  · obtain ⟨h1, h2⟩ := S.o _ _ e
    refine ⟨h1, ?_⟩
    cases oo with
    | lst ws => obtain ⟨vs, q1, q2⟩ := h2; exact ⟨vs, h _ _ q1, q2⟩
    | dK kvs => obtain ⟨vs, q1, q2⟩ := h2; exact ⟨vs, h _ _ q1, q2⟩
    | ins C dx fs => obtain ⟨vs, q1, q2⟩ := h2; exact ⟨vs, h _ _ q1, q2⟩
    | grid rows =>
      obtain ⟨rs, q1, q2, q3, q4, q5⟩ := h2
      refine ⟨rs, q1, h _ _ q2, q3, q4, fun i r ds e1 e2 => ?_⟩
      obtain ⟨z1, z2, vs, z3, z4⟩ := q5 i r ds e1 e2
      exact ⟨z1, z2, vs, h _ _ z3, z4⟩
  · obtain ⟨o, q⟩ := S.gd _ _ e
    exact ⟨o, h _ _ q⟩
end
noncomputable def tyN : PyData → String
  | .none => "NoneType"
  | .bool _ => "bool"
  | .int _ => "int"
  | .str _ => "str"
  | .list _ => "list"
  | .tuple _ => "tuple"
  | .dict _ => "dict"
noncomputable def UZ : PyData → Bool
  | .int _ => true
  | .bool _ => true
  | _ => false
noncomputable def XA : PyData → Bool
  | .bool _ => true
  | _ => false
noncomputable def U0 : PyData → Bool
  | .str _ => true
  | _ => false
noncomputable def XB : PyData → Bool
  | .list _ => true
  | _ => false
noncomputable def U1 : PyData → Bool
  | .tuple _ => true
  | _ => false
noncomputable def isN (d : PyData) : String → Bool
  | "int" => UZ d
  | "bool" => XA d
  | "str" => U0 d
  | "list" => XB d
  | _ => U1 d
noncomputable def okN : String → Bool
  | "bool" => true
  | "int" => true
  | "str" => true
  | "list" => true
  | "tuple" => true
  | _ => false
theorem zaz {K : PySem.W.Frag} (d : PyData) {n : String} (h : okN n = true) : PySem.W.kitOne K (.type (tyN d)) (.type n) = some (isN d n) := by
  unfold okN at h
  split at h <;> first | (cases d <;> rfl) | cases h
noncomputable def Jz (K : PySem.W.Frag) : List V → Hp → VK → Prop := fun xs H Q => ∃ d x n, xs = [x, .ty n] ∧ Rep K H d x ∧ okN n = true ∧ Q (.bl (isN d n)) H
theorem JA {X : Cx} : zJ X (.builtin "isinstance") (Jz X.K) := by
  intro pins s σ H xs us Q I r h
  obtain ⟨d, x, n, rfl, hd, hn, q⟩ := h
  obtain ⟨u, c, rfl, ru, rc⟩ := r.two
  cases rc
  have e := zaz (K := X.K) d hn
  have fin : ∀ tk, ∃ v H', Inv X pins σ H' { s with toks := tk } ∧ RelV v (.bool (isN d n)) ∧ Q v H' := fun tk => ⟨.bl _, H, I.tok tk, rfl, q⟩
  cases d with
  | none => cases (show x = .non from hd); exact vc I ru .non e fin
  | bool b => cases (show x = .bl b from hd); exact vc I ru (.bl _) e fin
  | int b => cases (show x = .int b from hd); exact vc I ru (.int _) e fin
  | str b => cases (show x = .str b from hd); exact vc I ru (.str _) e fin
  | list ds =>
    obtain ⟨a, ys, rfl, h1, _⟩ := hd
    cases ru
    obtain ⟨its, rv, ⟨o, m, h2, h3, _⟩, _⟩ := I.list h1
    exact PySem.W.kia_one PySem.W.kitx_list I.kIn ⟨o, h2, h3⟩ e (fun z => nomatch z) fin
  | tuple ds =>
    obtain ⟨a, ys, rfl, h1, _⟩ := hd
    cases ru
    obtain ⟨its, rv, ⟨o, h2, h3, _⟩, _⟩ := I.tuple h1
    exact PySem.W.kia_one PySem.W.kitx_tuple I.kIn ⟨o, h2, h3⟩ e (fun z => nomatch z) fin
  | dict kvs =>
    obtain ⟨rfl, a, rfl, h1⟩ := hd
    cases ru
    obtain ⟨_, _, vs, _, p⟩ := (show zR X.prog X.w H s.heap a (.dK []) from h1.ok I.hok)
    obtain ⟨o, es, ep, h2, h3, _⟩ := p
    exact PySem.W.kia_one PySem.W.kitx_dict I.kIn ⟨o, h2, h3.1⟩ e (fun z => nomatch z) fin
theorem yA {X : Cx} {K : PySem.W.Frag} (h : X.K = K) : zJ X (.builtin "isinstance") (Jz K) := by subst h; exact JA
section
variable {K : PySem.W.Frag}
noncomputable def zco (n : String) (Ta : TEW) : TEW := fun ρ O R => Ta ρ O fun x O1 => match x with
  | .d d => okN n = true ∧ R (.d (.bool (isN d n))) O1
  | _ => False
theorem zaA {n : String} {ta : TE} {Ta : TEW} (h : zn K ta Ta) : zn K (tCB (Jz K) (xu ta (xu (tC (.ty n)) uW))) (zco n Ta) := by
  intro Γ O H ρ σ S r Q R hT k
  refine h _ _ _ _ _ S r _ _ hT fun Γ1 O1 H1 x v l1 S1 rx h1 => ?_
  cases x with
  | d d => exact ⟨d, v, n, rfl, Rep.same S1.z _ _ rx, h1.1, k _ _ _ _ _ l1 S1 yL h1.2⟩
  | own _ => exact h1.elim
  | row _ _ => exact h1.elim
noncomputable def U2 : TEW := fun ρ O R => R (.d (.dict [])) O
theorem U3 : zn K Uy U2 := by
  intro Γ O H ρ σ S r Q R hT k p hp
  obtain ⟨l, S'⟩ := S.newD hp (.dK [])
  exact k _ _ (upd H p (.dK [])) (.d (.dict [])) (.ref p) l S' (show Rep K _ (.dict []) (.ref p) from ⟨rfl, p, rfl, .inl zg⟩) hT
noncomputable def zcp (K : PySem.W.Frag) : List V → Hp → VK → Prop := Jj K
theorem U4 {X : Cx} (h : X.K = K) : zJ X (.builtin "isinstance") (zcp K) := UI h
theorem zaB {ta : TE} {Ta : TEW} (h : zn K ta Ta) : zn K (tCB (zcp K) (xu ta (xu (tC (.ty "list")) uW))) (Z0 Ta) := zav h
noncomputable def Z5 : V → List V → Hp → VK → Prop := qw
theorem Vp {X : Cx} : MtM X "list.append" Z5 := yk
noncomputable def JB (O : OM) (o w : W) : Option OM := match o, w with
  | .own a, .own b => match O b with
    | some (.lst us) => match zX us with
      | some ds => match del O b a with
        | some (.lst ws) => if ws.length < 1000 then some (updO (del O b) a (.lst (ws ++ [.d (.list ds)]))) else none
        | _ => none
      | none => none
    | _ => none
  | _, _ => none
noncomputable def KA : W → List W → OM → WK → Prop := fun x ws O R => ∃ w O1, ws = [w] ∧ JB O x w = some O1 ∧ R (.d .none) O1
theorem zcq {T : String} : RefM K T Z5 KA := by
  rintro Γ O H x v xs vs S rx rs Q R ⟨w, O1, rfl, e, h⟩ k
  cases rs with
  | cons rw t =>
    cases t
    rename_i u
    unfold JB at e
    split at e
    · rename_i a b
      cases (show v = .ref a from rx)
      cases (show u = .ref b from rw)
      split at e
      · rename_i us hb
        split at e
        · rename_i ds hd
          split at e
          · rename_i ws ho
            split at e
            · rename_i hl
              cases e
              rw [yc hd] at hb
              obtain ⟨Γ1, l1, S1, r1⟩ := S.freeze hb
              obtain ⟨_, us, q1, q2⟩ := S1.o _ _ ho
              refine ⟨a, us, .ref b, rfl, rfl, q1, by rw [← Paired.length q2]; exact xj (by omega), ?_⟩
              exact k _ _ _ _ _ l1 (S1.put (oo := .lst _) ho (by intro _ h; cases h) (by intro _ h; cases h) ⟨_, zg, Paired.appP q2 (.cons r1 .nil)⟩) yX h
            · cases e
          · cases e
        · cases e
      · cases e
    · cases e
noncomputable def Vq (K : PySem.W.Frag) : R2 := fun x y H Q => ∃ l k xs, x = .ref l ∧ y = .int k ∧ SqL K H l xs ∧ -(2 ^ 63) ≤ k ∧ k < 2 ^ 63 ∧ xs.length * k.toNat ≤ sizeLine ∧
  ∀ p, H p = none → Q (.ref p) (upd H p (.lst (List.replicate k.toNat xs).flatten))
end
theorem zaC {X : Cx} : OpR X (binaryOp .Mult) (Vq X.K) := by
  intro pins s σ H x y v u Q I rx ry h
  obtain ⟨l, k, xs, rfl, rfl, hH, h1, h2, hz, q⟩ := h
  cases rx
  obtain ⟨t, rfl⟩ := ry
  obtain ⟨its, r, ⟨⟨oc, od, oda, osl⟩, n, e, c, d, dt⟩, hl⟩ := I.list hH
  simp only at c d dt
  subst c d dt
  have hl : xs.length = its.length := r.length
  have hlen : its.toArray.size * k.toNat ≤ sizeLine := by rw [List.size_toArray, ← hl]; exact hz
  have hcap : ¬ its.toArray.size * k.toNat > (2 ^ 63 - 1) / 8 := by
    have : (sizeLine : Nat) ≤ (2 ^ 63 - 1) / 8 := by decide
    omega
  have hfit : ¬ (!Builtin.List.listFitsIndex k) = true := by
    rw [fitsIndex_both h1 h2]
    exact Bool.false_ne_true
  have hlong : ¬ Builtin.List.listTooLong (its.toArray.size * k.toNat) = true := by
    rw [qV hlen]
    exact Bool.false_ne_true
  have hnew : List.foldl (fun x1 x2 => x1 ++ x2) #[] (List.replicate (if its.toArray.isEmpty = true then 0 else k.toNat) its.toArray) = (List.replicate k.toNat its).flatten.toArray := by
    have f0 : ∀ m : Nat, List.foldl (fun x1 x2 => x1 ++ x2) #[] (List.replicate m its.toArray) = (List.replicate m its).flatten.toArray := fun m => by
      have := uX its m []
      rw [List.nil_append] at this
      exact this
    rw [f0]
    cases its with
    | nil => simp
    | cons a r' => rw [if_neg (by simp)]
  refine wpAny_binaryOp_repeat_ref (T := "list") (U := "int") (by decide) ⟨_, e, rfl⟩ (fun s' => typeIs_int s' k t) noFill_list_mul F.fills_int_mul F.slot_int_rmul repeat_list F.slot_int_index.lookup
    (call_meets F.slot_int_rmul (typeIs_int s k t) F.entry_int_rmul (F.args_int_rmul_2 _ _) (AutoListH.rmul_sl k t l its.toArray n osl)
      ⟨e, rfl, ⟨_, e, rfl⟩, call_meets F.slot_list_mul ⟨_, e, rfl⟩ F.entry_list_mul (F.args_list_mul_2 _ _) (AutoListH.list_mul_sl l its.toArray n osl k t hfit hcap hlong) ⟨e, ?_⟩⟩)
  rw [hnew]
  exact ⟨.ref _, _, I.lnew (t' := s.toks) (r.rep k.toNat) (by rw [Xk, Nat.mul_comm]; exact hz), rfl, q _ I.fresh⟩
theorem ke {X : Cx} {K : PySem.W.Frag} (h : X.K = K) : OpR X (binaryOp .Mult) (Vq K) := by subst h; exact zaC
section
variable {K : PySem.W.Frag}
noncomputable def yP (n : Int) (ds : List PyData) : List PyData := (List.replicate n.toNat ds).flatten
noncomputable def KB : R2W := fun x y O R => ∃ ds n, vC O x = some ds ∧ yp x = none ∧ y = .d (.int n) ∧ 0 ≤ n ∧ n ≤ 1000 ∧ ds.length * n.toNat ≤ 100000 ∧ R (.d (.list (yP n ds))) O
theorem zcr : RefR K (Vq K) KB := by
  rintro Γ O H x y v u S rx ry Q R ⟨ds, n, e, et, rfl, n0, n1, hl, h⟩ k
  unfold vC at e
  rw [et] at e
  simp only at e
  cases hL : zq O x with
  | none => rw [hL] at e; cases e
  | some ws =>
    rw [hL] at e
    obtain ⟨a, vs, rfl, q1, q2⟩ := z0 S rx hL
    rw [yc (show zX ws = some ds from e)] at q2
    have q3 := zt q2
    refine ⟨a, n, vs, rfl, ry, q1, by omega, by omega, by rw [← Reps.length q3, sizeLine_eq]; omega, fun p hp => ?_⟩
    obtain ⟨Γ', le, S', r'⟩ := u4 S (je q3 n.toNat) hp
    exact k _ _ _ _ _ le S' r' h
noncomputable def zcs : List V → Hp → VK → Prop := fun xs H Q => ∃ x, xs = [.str x] ∧ x.length = 1 ∧ Q (.int (x.cps.getD 0 0 : Nat)) H
noncomputable def zct : List W → OM → WK → Prop := fun xs O R => ∃ z : Str, xs = [.d (.str z)] ∧ z.length = 1 ∧ R (.d (.int (z.cps.getD 0 0 : Nat))) O
theorem zdi : RefC K zcs zct := by
  rintro Γ O H xs vs S rs Q R ⟨z, rfl, e, h⟩ k
  cases rs with
  | cons rx t =>
    cases t
    exact ⟨z, by rw [show _ = V.str z from rx], e, k _ _ _ _ _ (Le.refl _) S xn h⟩
end
theorem U5 {X : Cx} : zJ X (.builtin "ord") zcs := QI
noncomputable def zaD (K : PySem.W.Frag) : V → List V → Hp → VK → Prop := fun x vs H Q => ∃ l, ∃ bs : List Bool, x = .ref l ∧ vs = [.bl true] ∧ SqL K H l (bs.map V.bl) ∧ Q (.int (bs.countP id : Nat)) H
noncomputable def zaE (K : PySem.W.Frag) : V → List V → Hp → VK → Prop := fun x vs H Q => ∃ l, ∃ bs : List Bool, ∃ j, x = .ref l ∧ vs = [.bl true] ∧ SqL K H l (bs.map V.bl) ∧ bs[j]? = some true ∧ (∀ i, i < j → bs[i]? = some false) ∧ j < 1000 ∧ Q (.int (j : Nat)) H
end L2
namespace PySem.MeetsSeq2
open AutoSeq1 (wpAny_loadPart')
open MeetsSeq
theorem jf {M : Model} {A : Around} {E : Value → Shared → Prop} {s : Shared} {β : Type} (f : Nat → β → Sem (ForInStep β)) (I : List Nat → β → Shared → Prop) (Q : β → Shared → Prop)
    (turn : ∀ x yh b s, I (x :: yh) b s → wpAny M A (f x b) (fun r s' => match r with | .yield b' => I yh b' s' | .done b' => Q b' s') E s)
    (fin : ∀ b s, I [] b s → Q b s) (n : Nat) (b : β) (h : I (List.range' 0 n) b s) : wpAny M A (forIn [:n] b f) Q E s := by
  rw [Std.Legacy.Range.forIn_eq_forIn_range']
  simp only [Std.Legacy.Range.size, Nat.sub_zero, Nat.add_sub_cancel, Nat.div_one]
  exact wpAny_forIn_list f I Q turn fin _ b h
theorem tuple_index_sl (l : Addr) (items : Array Value) (n : Nat) (dd : Option Addr) (sl : Array (Option Value)) (x : Value) (e : Value → Bool) (he : ∀ y, y ∈ items → EqGives y x (e y)) (j : Nat) (hj : j < items.size) (hit : e items[j] = true) (hno : ∀ m (hm : m < items.size), m < j → e items[m] = false) :
    Meets (Builtin.«tuple.index» ⟨[.ref l, x], []⟩)
      (fun _ R s => s.heap.get? l = some { cls := .type "tuple", dict := dd, data := .seq items n, slots := sl } ∧ R (.ok (.ret (.int j s.toks))) { s with toks := s.toks + 1 }) :=
  .of_wp fun prog w A R s h => by
    obtain ⟨hp, g, d, tk, os⟩ := s; obtain ⟨hl, h⟩ := h
    wp_walk using wpAny_loadPart' hl, jf _ (fun yh b s' => b.1 = none ∧ s' = ⟨hp, g, d, tk, os⟩ ∧ ∃ i, i ≤ j ∧ yh = List.range' i (items.size - i)) _
    case turn =>
      rintro m yh b s' ⟨hb, rfl, i, hij, hr⟩
      have hlt : i < items.size := by omega
      obtain ⟨rfl, hrest⟩ : m = i ∧ yh = List.range' (i + 1) (items.size - (i + 1)) := by
        have e : items.size - i = (items.size - (i + 1)) + 1 := by omega
        rw [e, List.range'_succ] at hr
        injection hr with h1 h2
        exact ⟨h1, h2⟩
      rw [Array.getElem?_eq_getElem hlt]
      refine wpAny_bind (he _ (Array.getElem_mem hlt) prog w _ _ _ _ ?_)
      by_cases hmj : m = j
      · subst hmj
        rw [hit, if_pos rfl]
        wp_walk
        exact ⟨_, rfl, h⟩
      · rw [hno m hlt (by omega), if_neg (by decide)]
        exact wpAny_pure ⟨rfl, rfl, m + 1, by omega, hrest⟩
    case fin =>
      rintro b s' ⟨hb, rfl, i, hij, hr⟩
      have e : items.size - i = (items.size - (i + 1)) + 1 := by omega
      rw [e, List.range'_succ] at hr
      cases hr
    case h =>
      exact ⟨rfl, rfl, 0, Nat.zero_le _, by simp⟩
end PySem.MeetsSeq2
namespace L2
open PySem PySem.Spec PyProof.Rows
noncomputable abbrev DSp (kvs : List (Str × Value)) (D : List (Str × Int)) : Prop := Paired (fun (p : Str × Value) (q : Str × Int) => p.1 = q.1 ∧ ∃ t, p.2 = .int q.2 t) kvs D
structure DS (P : Program) (w : World) (K : PySem.W.Frag) (a : Addr) (D : List (Str × Int)) : Prop where
  ns : (a == sysModules) = false
  ex : ∃ (kvs : List (Str × Value)) (ep : Nat), (∀ h : Heap, K.In h → h.DictAt (strKind P w) a kvs ep) ∧ DSp kvs D
theorem Z6 : ∀ {kvs : List (Str × Value)} {D : List (Str × Int)}, PyProof.V.FlatPairs PyData.str kvs ((D.map fun p => (p.1, PyData.int p.2)).map fun p => (PyData.str p.1, p.2)) → DSp kvs D
  | _, [], h => by
    cases h
    exact .nil
  | _, (y, i) :: D, h => by
    simp only [List.map_cons] at h
    cases h with
    | cons hf ht =>
      refine .cons ⟨rfl, ?_⟩ (Z6 ht)
      cases hf (default : Heap) with
      | int _ t => exact ⟨t, rfl⟩
theorem DS.of {P : Program} {w : World} {K : PySem.W.Frag} {a : Addr} {D : List (Str × Int)} (hl : KTD.tabLook KTD.flatLooks (fun b => K.lookup b) a (D.map fun p => (p.1, PyData.int p.2)) = true)
    (hn : ((D.map fun p => (p.1, PyData.int p.2)).map (·.1)).Nodup) (hh : KTD.hashesOf (fun b => K.lookup b) a = (D.map fun p => (p.1, PyData.int p.2)).map fun p => (strKind P w).hash p.1) : DS P w K a D := by
  simp only [KTD.tabLook, Bool.and_eq_true] at hl
  obtain ⟨h0, hl⟩ := hl
  split at hl
  · rename_i o ho
    simp only [Bool.and_eq_true] at hl
    obtain ⟨⟨⟨e1, e2⟩, e3⟩, e4⟩ := hl
    split at e4
    · rename_i es ep hd
      have hh' : es.toList.map (·.hash) = (D.map fun p => (p.1, PyData.int p.2)).map fun p => (strKind P w).hash p.1 := by
        rw [← hh]; unfold KTD.hashesOf; simp only [ho, hd]
      obtain ⟨hk, kvs, hp, hf, hm⟩ := KTD.strs_of_rows P w (KTD.rows_of_look (fun _ _ x => KTD.flat_of_looks x) e4) hh'
      exact ⟨by simpa using h0, kvs, ep, fun h X => ⟨o, es, X _ _ ho, ⟨beq_iff_eq.mp e1, by simpa using e2, by simpa using e3⟩, hd, fun e he => hk e (by simpa using he), hp, by rw [hm]; exact hn⟩, Z6 hf⟩
    · cases e4
  · cases hl
noncomputable def xg (D : List (Str × Int)) (k : Str) : Option Int := match D with
  | [] => none
  | (i, d) :: r => if i = k then some d else xg r k
theorem XD : ∀ {kvs : List (Str × Value)} {D : List (Str × Int)} (k : Str), DSp kvs D → (∃ t i, xg D k = some i ∧ valueAt kvs k = some (.int i t)) ∨ (xg D k = none ∧ valueAt kvs k = none)
  | [], _, k, h => by
    cases h
    exact .inr ⟨rfl, rfl⟩
  | (x, v) :: kvs, _, k, h => by
    cases h with
    | cons a b =>
      rename_i q D
      obtain ⟨y, i⟩ := q
      obtain ⟨e1, t, e2⟩ := a
      simp only at e1 e2
      subst e1 e2
      by_cases hk : x = k
      · exact .inl ⟨t, i, by simp [xg, hk], by simp [valueAt, hk]⟩
      · have := XD k b
        rcases this with ⟨t', i', q1, q2⟩ | ⟨q1, q2⟩
        · exact .inl ⟨t', i', by simp [xg, hk, q1], by simpa [valueAt, hk] using q2⟩
        · exact .inr ⟨by simp [xg, hk, q1], by simpa [valueAt, hk] using q2⟩
noncomputable def Vr (P : Program) (w : World) (K : PySem.W.Frag) (to : TE) (t : TA) : TE := fun σ H Q => to σ H fun x H1 => ∃ a D, x = .ref a ∧ DS P w K a D ∧ t σ H1 fun xs H2 => ∃ z d, xs = [.str z, .int d] ∧ Q (.int ((xg D z).getD d)) H2
theorem zaF {X : Cx} {o e : Expr} {es : List Expr} {to : TE} {t : TA} {apos cpos : Pos} (ho : PE X o to) (ha : PA X (e :: es) t)
    (hbase : attributeBase o "get" X.env (eval o X.env) = eval o X.env := by rfl)
    (hfew : ((backTo cpos (starEach (e :: es) X.env)).all (fun x => !x.1) && (backToKw cpos (keywordEach [] X.env)).all (fun x => x.1.isSome)
      && decide ((e :: es).length + ([] : List Keyword).length + (if ([] : List Keyword).isEmpty then 0 else 1) < 30)) = true := by rfl)
    (hline : (apos.endLine == cpos.line) = true := by rfl) (hs : starEach (e :: es) X.env = (false, eval e X.env) :: starEach es X.env := by rfl) (hplain : (backTo cpos (starEach es X.env)).any (·.1) = false := by rfl) :
    PE X (.Call (.Attribute o "get" apos) (e :: es) [] cpos) (Vr X.prog X.w X.K to t) := by
  intro pins s σ H Q I h
  refine wpAny_Call_method_late hbase hfew hline rfl (thn (ho pins s σ H _ I h) fun v s1 ⟨x, H1, I1, r1, a, D, ex, hD, q1⟩ => ?_)
  subst ex
  cases r1
  obtain ⟨kvs, ep, hat, hp⟩ := hD.ex
  obtain ⟨ob, bs, hob, hc, _⟩ := hat s1.heap I1.kIn
  refine ⟨"dict", "dict.get", PySem.F.plainAttrs_dict, PySem.F.slot_dict_get, PySem.F.type_dict_get, ⟨ob, hob, hc.1⟩, fun b e => by injection e with e; subst e; exact ⟨ob, hob, hc.2.1⟩, ?_⟩
  have hA := ha cpos pins s1 σ H1 _ I1 q1
  rw [hs] at hA ⊢
  refine Calls.callWith_builtin (by show (false || (backTo cpos (starEach es X.env)).any (·.1)) = false; rw [hplain] <;> rfl) (Calls.evalArgs_plain ?_)
  refine thn hA fun us s2 ⟨vs, H2, I2, r2, z, d, ev, q2⟩ => ?_
  subst ev
  obtain ⟨u1, u2, rfl, h1, h2⟩ := r2.two
  obtain ⟨t1, rfl⟩ := h1
  obtain ⟨t2, rfl⟩ := h2
  have dd := hat s2.heap I2.kIn
  have dof : s2.heap.DictOf (strKind X.prog X.w) a kvs := by
    obtain ⟨o, es, q⟩ := dd
    exact ⟨o, es, ep, q⟩
  refine call_meetsIn PySem.F.slot_dict_get dof.typeIs PySem.F.entry_dict_get (PySem.F.args_dict_get_3 _ _ _) (meets_dict_get_default (knd := strKind X.prog X.w) (d := a) (k := z) (strKind_is X.prog X.w z t1) hD.ns (.int d t2)) ⟨_, dof.mapOf, ?_⟩
  rcases XD z hp with ⟨t', i, e1, e2⟩ | ⟨e1, e2⟩
  · rw [e1] at q2
    exact ⟨.int i, H2, I2.tok _, ⟨t', by show Option.getD (valueAt kvs z) _ = _; rw [e2]; rfl⟩, q2⟩
  · rw [e1] at q2
    exact ⟨.int d, H2, I2.tok _, ⟨t2, by show Option.getD (valueAt kvs z) _ = _; rw [e2]; rfl⟩, q2⟩
noncomputable def Iti (D : List (Str × Int)) : It :=
  ⟨fun i _ => i < D.length,
   fun i H v H' => ∃ t p, v = .ref t ∧ H t = none ∧ D[i]? = some p ∧ H' = upd H t (.tup [.str p.1, .int p.2]),
   fun i _ => D.length ≤ i⟩
theorem Vs {P : Program} {w : World} {K : PySem.W.Frag} {es : List Expr} {k : Nat} {pos : Pos} {a n ep : Nat} {D : List (Str × Int)} {kvs : List (Str × Value)} (hat : ∀ h : Heap, K.In h → h.DictAt (strKind P w) a kvs ep) (hp : DSp kvs D) :
    Turn P w K (.Tuple es k pos) (Iti D) [n] n (fun i h => ∃ ok ov, IsItemIter h n a i kvs.length ep ok ov) where
  mem := by simp
  obj := fun i h st c hc => by
    obtain ⟨ok, ov, hz⟩ := st
    cases List.mem_singleton.1 hc
    exact ⟨_, hz, fun v z => by
      have z' : Data.fields _ = Data.cell v := z
      cases z'⟩
  keep := fun i h h' st k => by
    obtain ⟨ok, ov, hz⟩ := st
    exact ⟨ok, ov, k _ (by simp) _ hz⟩
  item := by
    intro X hP hw hK hc i pins s σ H E I hf st hg
    subst hP hw hK
    obtain ⟨ok, ov, hz⟩ := st
    have hg' : i < D.length := hg
    obtain ⟨q, hq, e1, t, e2⟩ := Paired.getQ hp (List.getElem?_eq_getElem hg')
    obtain ⟨qk, qv⟩ := q
    simp only at e1 e2
    subst e2
    have hm := hat s.heap I.kIn
    refine wpAny_pyNext_items_item hz hm hq fun key h' hkey hz' hp' hsz kk => ?_
    obtain ⟨tk, rfl⟩ := Value.isStrOf_shape hkey
    refine ⟨_, rfl, wpAny_letOwnedTupleGo_items hz' fun h3 z3 sb => ?_⟩
    have hn := I.hok.fresh (Nat.le_refl s.heap.objs.size)
    have I1 : Inv X pins σ (upd H s.heap.objs.size (.tup [.str qk, .int D[i].2])) { s with heap := s.heap.push { cls := .type "tuple", data := .seq [Value.str qk tk, Value.int D[i].2 t].toArray }, toks := s.toks } :=
      I.laid (t' := s.toks) (fun b o e => Heap.get?_push_of_some _ e) (Nat.le_refl _) ⟨by show 2 ≤ sizeLine; decide, [Value.str qk tk, Value.int D[i].2 t], .cons ⟨tk, rfl⟩ (.cons ⟨t, rfl⟩ .nil), IsTup.new s.heap _⟩
    have ln : n ≠ s.heap.objs.size := Nat.ne_of_lt (Heap.lt_size hz)
    have I2 := I1.turnedL (h' := h3) (t' := s.toks) (fp := [n]) (fun c o hc q => by
      have c0 : c ≠ n := fun z => hc (by simp [z])
      by_cases hcz : c = s.heap.objs.size
      · subst hcz
        have q' : (s.heap.push { cls := .type "tuple", data := .seq #[Value.str qk tk, Value.int D[i].2 t] }).get? s.heap.objs.size = some o := q
        rw [Heap.get?_push_size s.heap (o := { cls := .type "tuple", data := .seq #[Value.str qk tk, Value.int D[i].2 t] }) rfl] at q'
        exact (sb.2 _ c0).trans (hp'.trans q')
      · have q' : (s.heap.push { cls := .type "tuple", data := .seq #[Value.str qk tk, Value.int D[i].2 t] }).get? c = some o := q
        rw [Heap.get?_push_ne _ _ _ hcz] at q'
        exact (sb.2 c c0).trans (kk c o c0 q')) fun c hc => by
          cases List.mem_singleton.1 hc
          exact ⟨by rw [zd ln]; exact (hf n (by simp)).1, (hf n (by simp)).2⟩
    refine ⟨.ref s.heap.objs.size, _, I2, rfl, ⟨_, D[i], rfl, hn, List.getElem?_eq_getElem hg', by rw [e1]⟩, ⟨_, _, z3⟩, fun c hc => by
      cases List.mem_singleton.1 hc
      rw [zd ln]
      exact (hf n (by simp)).1⟩
  done := by
    intro X hP hw hK hc i pins s σ H E I hf st hg
    subst hP hw hK
    obtain ⟨ok, ov, hz⟩ := st
    have hg' : D.length ≤ i := hg
    have hm := hat s.heap I.kIn
    refine wpAny_pyNext_items_end (I.ok.hd hc) hz hm (List.getElem?_eq_none (by rw [Paired.length hp]; exact hg')) fun h' kk => ⟨rfl, I.turnedL (t' := s.toks) (fp := [n]) (fun c o hc e => kk c o (fun z => hc (by simp [z])) e) hf⟩
  self := fun _ _ _ _ _ st h => by
    obtain ⟨ok, ov, hz⟩ := st
    exact PySem.W.kcp_self hz h
noncomputable def Z7 (P : Program) (w : World) (K : PySem.W.Frag) (to : TE) : TI := fun σ H R => to σ H fun x H1 => ∃ a D, x = .ref a ∧ DS P w K a D ∧ R (Iti D) H1
theorem JC {X : Cx} {es : List Expr} {k : Nat} {tp : Pos} {o : Expr} {to : TE} {apos cpos : Pos} (ho : PE X o to) (hbase : attributeBase o "items" X.env (eval o X.env) = eval o X.env := by rfl) (hline : (apos.endLine == cpos.line) = true := by rfl) :
    PI X (.Tuple es k tp) (.Call (.Attribute o "items" apos) [] [] cpos) (Z7 X.prog X.w X.K to) := by
  intro pins s σ H R I h
  refine wpAny_Call_method0_late hbase hline (thn (ho pins s σ H _ I h) fun v s1 ⟨x, H1, I1, r1, a, D, ex, hD, q⟩ => ?_)
  subst ex
  cases r1
  obtain ⟨kvs, ep, hat, hp⟩ := hD.ex
  have dd := hat s1.heap I1.kIn
  obtain ⟨ob, bs, hob, hc, hrest⟩ := id dd
  have dof : s1.heap.DictOf (strKind X.prog X.w) a kvs := ⟨ob, bs, ep, hob, hc, hrest⟩
  refine ⟨"dict", "dict.items", PySem.F.plainAttrs_dict, PySem.F.slot_dict_items, PySem.F.type_dict_items, ⟨ob, hob, hc.1⟩, fun b e => by injection e with e; subst e; exact ⟨ob, hob, hc.2.1⟩, Calls.callWith_builtin rfl (PySem.evalArgs_none ?_)⟩
  refine call_meetsIn PySem.F.slot_dict_items dof.typeIs PySem.F.entry_dict_items (PySem.F.args_dict_items_1 _) (meets_dict_items (strKind X.prog X.w) a hD.ns) ⟨⟨kvs, dof⟩, ?_⟩
  have hv : (s1.heap.push { cls := .type "dict_items", data := .fields #[.ref a] }).IsItemsView s1.heap.objs.size a := ⟨_, Heap.get?_push_size _ rfl, rfl, rfl⟩
  have k1 : ∀ b o, s1.heap.get? b = some o → (s1.heap.push { cls := .type "dict_items", data := .fields #[.ref a] }).get? b = some o := fun b o e => Heap.get?_push_of_some _ e
  have I2 : Inv X pins σ H1 { s1 with heap := s1.heap.push { cls := .type "dict_items", data := .fields #[.ref a] } } := I1.kept (t' := s1.toks) k1
  refine wpAny_pyIter_items (knd := strKind X.prog X.w) hv (hat _ I2.kIn) ?_
  refine ⟨_, [(s1.heap.push { cls := .type "dict_items", data := .fields #[.ref a] }).objs.size], _, _, H1, rfl, I2.kept (t' := s1.toks) fun b o e => Heap.get?_push_of_some _ e, Vs (ep := ep) hat hp, ⟨.none, .none, Heap.get?_push_size _ rfl⟩, fun c hc => ?_, q⟩
  cases List.mem_singleton.1 hc
  exact I2.fpOk (Nat.le_refl _) (I2.hok.fresh (Nat.le_refl _))
section
variable {K : PySem.W.Frag} {P : Program} {w : World}
noncomputable def U6 (P : Program) (w : World) (K : PySem.W.Frag) (To : TEW) : TIW := fun ρ O R => To ρ O fun x O1 => ∃ a D, x = .own a ∧ DS P w K a D ∧ R (D.map fun p => W.d (.tuple [.str p.1, .int p.2])) (fun _ => True) O1
theorem Vt {to : TE} {To : TEW} (h : zn K to To) : v7 K (Z7 P w K to) (U6 P w K To) := by
  intro Γ O H ρ σ S r Q R hT k
  refine h _ _ _ _ _ S r _ _ hT fun Γ1 O1 H1 x v l1 S1 r1 h1 => ?_
  obtain ⟨a, D, rfl, hD, h1⟩ := h1
  refine ⟨a, D, r1, hD, k _ _ _ _ _ _ l1 S1 (fun i Γ' O' H' hz hg S' e' => ⟨fun w' hw => ?_, fun hi => ?_⟩) h1⟩
  · rw [List.getElem?_map] at hw
    cases hd : D[i]? with
    | none => rw [hd] at hw; cases hw
    | some p =>
      rw [hd] at hw
      cases hw
      refine ⟨(List.getElem?_eq_some_iff.mp hd).1, fun y H2 ⟨t, p', e1, e2, e3, e4⟩ => ?_⟩
      rw [hd] at e3
      cases e3
      subst e1 e4
      obtain ⟨Γ2, l2, S2, r2⟩ := uk S' (ds := [.str p.1, .int p.2]) (vs := [.str p.1, .int p.2]) ⟨_, _, rfl, rfl, _, _, rfl, rfl, rfl⟩ e2
      exact ⟨Γ2, l2, S2, r2⟩
  · show D.length ≤ i
    rw [hi, List.length_map]
    exact Nat.le_refl _
noncomputable def KC (P : Program) (w : World) (K : PySem.W.Frag) (To : TEW) (T : TAW) : TEW := fun ρ O R => To ρ O fun x O1 => ∃ a D, x = .own a ∧ DS P w K a D ∧ T ρ O1 fun ws O2 => ∃ z d, ws = [.d (.str z), .d (.int d)] ∧ R (.d (.int ((xg D z).getD d))) O2
theorem JD {to : TE} {t : TA} {To : TEW} {T : TAW} (ho : zn K to To) (h : yC K t T) : zn K (Vr P w K to t) (KC P w K To T) := by
  intro Γ O H ρ σ S r Q R hT k
  refine ho _ _ _ _ _ S r _ _ hT fun Γ1 O1 H1 x v l1 S1 rx h1 => ?_
  obtain ⟨a, D, rfl, hd, h1⟩ := h1
  refine ⟨a, D, rx, hd, h _ _ _ _ _ S1 (r.mono l1) _ _ h1 fun Γ2 O2 H2 ws vs l2 S2 rs h2 => ?_⟩
  obtain ⟨z, d, rfl, h2⟩ := h2
  cases rs with
  | cons rx t => cases t with
    | cons ry t =>
      cases t
      exact ⟨z, d, by rw [show _ = V.str z from rx, show _ = V.int d from ry], k _ _ _ _ _ (l1.trans l2) S2 xn h2⟩
theorem jI {i : Int} (h0 : 0 ≤ i) (h1 : i ≤ 1000000) : i.natAbs.log2 < 1920 := by
  by_cases hz : i.natAbs = 0
  · rw [hz]
    decide
  · refine (Nat.log2_lt hz).2 ?_
    have : i.natAbs ≤ 1000000 := by omega
    exact Nat.lt_of_le_of_lt this (Nat.lt_of_lt_of_le (show 1000000 < 2 ^ 20 by decide) (Nat.pow_le_pow_right (n := 2) (by decide) (show 20 ≤ 1920 by decide)))
noncomputable def KD : List V → Hp → VK → Prop := fun xs H Q => ∃ i, xs = [.int i] ∧ i.natAbs.log2 < 1920 ∧ Q (.str (toString i)) H
noncomputable def KF : List W → OM → WK → Prop := fun xs O R => ∃ i : Int, xs = [.d (.int i)] ∧ 0 ≤ i ∧ i ≤ 1000000 ∧ R (.d (.str (toString i))) O
theorem zcu : RefC K KD KF := by
  rintro Γ O H xs vs S rs Q R ⟨i, rfl, h0, h1, h⟩ k
  cases rs with
  | cons rx t =>
    cases t
    refine ⟨i, by rw [show _ = V.int i from rx], ?_, k _ _ _ _ _ (Le.refl _) S uj h⟩
    exact jI h0 h1
end
theorem vS {X : Cx} : zJ X (.type "str") KD := ZG
noncomputable def XE (K : PySem.W.Frag) : V → List V → Hp → VK → Prop := fun x vs H Q => ∃ a, ∃ ws : List Str, ∃ z j, x = .ref a ∧ vs = [.str z] ∧ SqT K H a (ws.map V.str) ∧ ws[j]? = some z ∧ (∀ i, i < j → ws[i]? ≠ some z) ∧ Q (.int (j : Nat)) H
theorem uA : ∀ {ws : List Str} {its : List Value}, Vals (ws.map V.str) its → ∀ (i : Nat) (z : Str), ws[i]? = some z → ∃ t, its[i]? = some (Value.str z t)
  | [], _, _, i, z, e => by cases e
  | w :: ws, _, .cons a t, i, z, e => by
    cases i with
    | zero =>
      cases e
      obtain ⟨t, rfl⟩ := a
      exact ⟨t, rfl⟩
    | succ i => exact uA t i z e
noncomputable def Vu (z : Str) : Value → Bool
  | .str y _ => y == z
  | _ => false
theorem U7 {X : Cx} : MtR X "tuple.index" (XE X.K) := by
  intro pins s σ H x xs v us Q I rx r h
  obtain ⟨a, ws, z, j, rfl, rfl, hq, hj, hno, q⟩ := h
  cases rx
  obtain ⟨u, rfl, tz, rfl⟩ := xt r
  obtain ⟨its, rv, ⟨⟨oc, od, oda, osl⟩, e, c, n, dt⟩, _⟩ := I.tuple hq
  simp only at c dt
  subst c dt
  obtain ⟨tj, hij⟩ := uA rv j z hj
  obtain ⟨hlt, hv⟩ := List.getElem?_eq_some_iff.mp hij
  have hw : ∀ (m : Nat) (hm : m < its.length), ∃ y t, ws[m]? = some y ∧ its[m] = Value.str y t := fun m hm => by
    have hl := rv.length
    rw [List.length_map] at hl
    have hm' : m < ws.length := by omega
    obtain ⟨t, ht⟩ := uA rv m _ (List.getElem?_eq_getElem hm')
    exact ⟨_, t, List.getElem?_eq_getElem hm', (List.getElem?_eq_some_iff.mp ht).2⟩
  refine call_meets F.slot_tuple_index ⟨_, e, rfl⟩ F.entry_tuple_index (F.args_tuple_index_2 _ _) (MeetsSeq2.tuple_index_sl a _ n od osl (.str z tz) (Vu z) (fun y hy => ?_) j (by simpa using hlt) (by simp [hv, Vu]) (fun m hm hmj => ?_)) ⟨e, ?_⟩
  · have hy' : y ∈ its := by simpa using hy
    obtain ⟨m, hm, rfl⟩ := List.mem_iff_getElem.1 hy'
    obtain ⟨y, t, _, e2⟩ := hw m hm
    rw [e2]
    exact PyProof.Rows.eqGives_str y z t tz
  · obtain ⟨y, t, e1, e2⟩ := hw m (by simpa using hm)
    have := hno m hmj
    rw [e1] at this
    simp only [List.getElem_toArray, e2, Vu, beq_eq_false_iff_ne]
    exact fun e => this (by rw [e])
  · exact ⟨.int (j : Nat), H, I.tok _, ⟨_, rfl⟩, q⟩
section
variable {K : PySem.W.Frag}
end
noncomputable def kf : V → Option Str
  | .str z => if z.length ≤ 1000 then some z else none
  | .int i => if 0 ≤ i ∧ i ≤ 1000000 then some (toString i) else none
  | _ => none
noncomputable def zcv (ta : TE) (z : Str) (tb : TE) : TE := fun σ H Q => ta σ H fun x H1 => ∃ s1, kf x = some s1 ∧ s1.length ≤ 1000 ∧ tb σ H1 fun y H2 => ∃ s2, kf y = some s2 ∧ s2.length ≤ 1000 ∧ Q (.str (((Str.empty ++ s1) ++ z) ++ s2)) H2
theorem U8 {X : Cx} {pins : List (Addr × Obj)} {s : Shared} {σ : St} {H : Hp} {x : V} {v : Value} {y : Str} {Q : Value → Shared → Prop} (I : Inv X pins σ H s) (r : RelV x v) (e : kf x = some y) (h : ∀ t s', Inv X pins σ H s' → Q (.str y t) s') : wpAny (model X.prog X.w) X.A (formatField v Str.empty) Q X.xe s := by
  cases x with
  | str z =>
    obtain ⟨t, rfl⟩ := r
    simp only [kf] at e
    split at e
    · rename_i hz
      cases e
      exact formatField_str (fun t' tk => h t' _ (I.tok tk)) (by rw [sizeLine_eq]; omega)
    · cases e
  | int i =>
    obtain ⟨t, rfl⟩ := r
    simp only [kf] at e
    split at e
    · rename_i hz
      cases e
      exact formatField_int_small (jI hz.1 hz.2) (h _ _ (I.tok _))
    · cases e
  | _ => cases e
theorem U9 {X : Cx} {a b : Expr} {z : Str} {k : Nat} {p1 p2 p3 pos : Pos} {ta tb : TE} (ha : PE X a ta) (hb : PE X b tb) (hz : z.length ≤ 1000) : PE X (.JoinedStr [.FormattedValue a (-1) none p1, .Constant (.str z) k p2, .FormattedValue b (-1) none p3] pos) (zcv ta z tb) := by
  intro pins s σ H Q I h
  refine JoinedStr_many (joinParts_cons (FormattedValue_plain (thn (ha pins s σ H _ I h) fun v s1 ⟨x, H1, I1, r1, s1', e1, l1, q1⟩ => U8 I1 r1 e1 fun t s2 I2 => ?_)))
  have len : ∀ a b : Str, (a ++ b).length = a.length + b.length := strLen_append
  have le0 : Str.empty.length = 0 := rfl
  refine ⟨by rw [len, le0, sizeLine_eq]; omega, ?_⟩
  refine joinParts_cons (thn (zm (X := X) (x := z) pins s2 σ H1 (fun v H' => v = .str z ∧ H' = H1) I2 ⟨rfl, rfl⟩) fun v s3 ⟨x', H', I3, r3, ex, eH⟩ => ?_)
  subst ex eH
  obtain ⟨t3, rfl⟩ := r3
  refine ⟨by rw [len, len, le0, sizeLine_eq]; omega, ?_⟩
  refine joinParts_cons (FormattedValue_plain (thn (hb pins s3 σ H' _ I3 q1) fun v s4 ⟨y, H2, I4, r4, s2', e2, l2, q2⟩ => U8 I4 r4 e2 fun t s5 I5 => ?_))
  refine ⟨by rw [len, len, len, le0, sizeLine_eq]; omega, ?_⟩
  exact joinParts_nil ⟨.str _, H2, I5.tok _, ⟨_, rfl⟩, q2⟩ (by rw [len, len, len, le0, sizeLine_eq]; omega)
section
variable {K : PySem.W.Frag}
noncomputable def Vv : W → Option Str
  | .d (.str z) => if z.length ≤ 1000 then some z else none
  | .d (.int i) => if 0 ≤ i ∧ i ≤ 1000000 then some (toString i) else none
  | _ => none
theorem Qa {Γ : Gh} {x : W} {v : V} {y : Str} (r : relW K Γ x v) (e : Vv x = some y) : kf v = some y := by
  cases x with
  | d d =>
    cases d with
    | str z => rw [show v = V.str z from r]; exact e
    | int z => rw [show v = V.int z from r]; exact e
    | _ => cases e
  | own _ => cases e
  | row _ _ => cases e
noncomputable def JE (Ta : TEW) (z : Str) (Tb : TEW) : TEW := fun ρ O R => Ta ρ O fun x O1 => ∃ s1, Vv x = some s1 ∧ s1.length ≤ 1000 ∧ Tb ρ O1 fun y O2 => ∃ s2, Vv y = some s2 ∧ s2.length ≤ 1000 ∧ R (.d (.str (((Str.empty ++ s1) ++ z) ++ s2))) O2
theorem zaG {ta tb : TE} {Ta Tb : TEW} {z : Str} (ha : zn K ta Ta) (hb : zn K tb Tb) : zn K (zcv ta z tb) (JE Ta z Tb) := by
  intro Γ O H ρ σ S r Q R hT k
  refine ha _ _ _ _ _ S r _ _ hT fun Γ1 O1 H1 x v l1 S1 rx h1 => ?_
  obtain ⟨s1, e1, n1, h1⟩ := h1
  refine ⟨s1, Qa rx e1, n1, hb _ _ _ _ _ S1 (r.mono l1) _ _ h1 fun Γ2 O2 H2 y u l2 S2 ry h2 => ?_⟩
  obtain ⟨s2, e2, n2, h2⟩ := h2
  exact ⟨s2, Qa ry e2, n2, k _ _ _ _ _ (l1.trans l2) S2 uj h2⟩
end
end L2
namespace L2
open PySem PySem.W PySem.Spec PySem.Calls PyProof.Rows
structure RoomE (k : Nat) (A : Around) : Prop where
  dp : A.depth + 3 * k + 5 < recursionLimit
  un : A.units + 16 * k + 200 < cLine
  gd : A.guards = some []
theorem Room.e {k : Nat} {A : Around} (r : Room k A) : RoomE k A := ⟨r.dp, r.un, r.gd⟩
theorem RoomE.mono {j k : Nat} {A : Around} (r : RoomE k A) (h : j ≤ k) : RoomE j A := ⟨by have := r.dp; omega, by have := r.un; omega, r.gd⟩
theorem RoomE.deeper {k : Nat} {A : Around} (r : RoomE (k + 1) A) (env : Env) : RoomE k (A.deeper env) :=
  ⟨by have := r.dp; show A.depth + 1 + 3 * k + 5 < _; omega, by have := r.un; show A.units + 3 + 16 * k + 200 < _; omega, r.gd⟩
section
variable {X : Cx} {K : PySem.W.Frag} {P : Program} {w : World}
theorem Z8 {o e : Expr} {es : List Expr} {to : TE} {t : TA} {apos cpos : Pos} (hK : X.K = K) (hP : X.prog = P) (hw : X.w = w) (ho : PE X o to) (ha : PA X (e :: es) t)
    (hbase : attributeBase o "get" X.env (eval o X.env) = eval o X.env := by rfl)
    (hfew : ((backTo cpos (starEach (e :: es) X.env)).all (fun x => !x.1) && (backToKw cpos (keywordEach [] X.env)).all (fun x => x.1.isSome)
      && decide ((e :: es).length + ([] : List Keyword).length + (if ([] : List Keyword).isEmpty then 0 else 1) < 30)) = true := by rfl)
    (hline : (apos.endLine == cpos.line) = true := by rfl) (hs : starEach (e :: es) X.env = (false, eval e X.env) :: starEach es X.env := by rfl) (hplain : (backTo cpos (starEach es X.env)).any (·.1) = false := by rfl) :
    PE X (.Call (.Attribute o "get" apos) (e :: es) [] cpos) (Vr P w K to t) := by subst hK hP hw; exact zaF ho ha hbase hfew hline hs hplain
theorem Qb {es : List Expr} {k : Nat} {tp : Pos} {o : Expr} {to : TE} {apos cpos : Pos} (hK : X.K = K) (hP : X.prog = P) (hw : X.w = w) (ho : PE X o to) (hbase : attributeBase o "items" X.env (eval o X.env) = eval o X.env := by rfl) (hline : (apos.endLine == cpos.line) = true := by rfl) :
    PI X (.Tuple es k tp) (.Call (.Attribute o "items" apos) [] [] cpos) (Z7 P w K to) := by subst hK hP hw; exact JC ho hbase hline
noncomputable def tCD (v : V) : TE := tC v
theorem zdj {x : Str} {p : Pos} {a : Addr} (hg : Gl X x) (hm : X.mg x = some (.ref a)) (hdb : (x == ("__debug__" : Str)) = false := by decide) : PE X (.Name x p) (tCD (.ref a)) := yF (v := .ref a) (u := .ref a) hg hm rfl hdb
noncomputable def wCD (K : PySem.W.Frag) (v : V) : TEW := fun _ O R => ∃ x, (∀ Z : Hp, Rep K Z x v) ∧ R (.d x) O
theorem zcw {v : V} : zn K (tCD v) (wCD K v) := by
  rintro Γ O H ρ σ S r Q R ⟨x, hx, hR⟩ k
  exact k _ _ _ _ _ (Le.refl _) S (J8 (hx _)) hR
noncomputable def KG (K : PySem.W.Frag) (a : Addr) (t : TA) : TE := tBM K "tuple" (XE K) (tC (.ref a)) t
theorem zaH {x : Str} {p : Pos} {a : Addr} {e : Expr} {es : List Expr} {t : TA} {apos cpos : Pos} (hK : X.K = K) (hg : Gl X x) (hm : X.mg x = some (.ref a)) (ha : PA X (e :: es) t) (hdb : (x == ("__debug__" : Str)) = false := by decide)
    (hbase : attributeBase (.Name x p) "index" X.env (eval (.Name x p) X.env) = eval (.Name x p) X.env := by rfl)
    (hfew : ((backTo cpos (starEach (e :: es) X.env)).all (fun x => !x.1) && (backToKw cpos (keywordEach [] X.env)).all (fun x => x.1.isSome)
      && decide ((e :: es).length + ([] : List Keyword).length + (if ([] : List Keyword).isEmpty then 0 else 1) < 30)) = true := by rfl)
    (hline : (apos.endLine == cpos.line) = true := by rfl) (hs : starEach (e :: es) X.env = (false, eval e X.env) :: starEach es X.env := by rfl) (hplain : (backTo cpos (starEach es X.env)).any (·.1) = false := by rfl) :
    PE X (.Call (.Attribute (.Name x p) "index" apos) (e :: es) [] cpos) (KG K a t) := by
  subst hK
  exact X6 PySem.F.plainAttrs_tuple PySem.F.slot_tuple_index PySem.F.type_tuple_index U7 (yF (v := .ref a) (u := .ref a) hg hm rfl hdb) ha hbase hfew hline hs hplain
noncomputable def KH (K : PySem.W.Frag) (a : Addr) (T : TAW) : TEW := fun ρ O R => (∃ o, K.lookup a = some o ∧ o.cls = .type "tuple" ∧ o.dict = none) ∧ T ρ O fun xs O1 => ∃ ws : List Str, ∃ z j, (∀ Z : Hp, SqT K Z a (ws.map V.str)) ∧ xs = [.d (.str z)] ∧ ws[j]? = some z ∧ (∀ i, i < j → ws[i]? ≠ some z) ∧ R (.d (.int (j : Nat))) O1
theorem JF {a : Addr} {t : TA} {T : TAW} (h : yC K t T) : zn K (KG K a t) (KH K a T) := by
  rintro Γ O H ρ σ S r Q R ⟨ho, hT⟩ k
  refine ⟨.inr (.inl ⟨rfl, ho⟩), h _ _ _ _ _ S r _ _ hT fun Γ1 O1 H1 xs vs l1 S1 rs h1 => ?_⟩
  obtain ⟨ws, z, j, hq, rfl, hj, hno, h1⟩ := h1
  cases rs with
  | cons ry t =>
    cases t
    exact ⟨a, ws, z, j, rfl, by rw [show _ = V.str z from ry], hq _, hj, hno, k _ _ _ _ _ l1 S1 xn h1⟩
end
end L2
namespace L2
open PySem PySem.Spec PyProof.Rows
noncomputable def jnB : List (List Nat) → List Nat
  | [] => []
  | [a] => a
  | a :: b :: r => a ++ 32 :: jnB (b :: r)
theorem KI : ∀ {a b x y : List Nat}, 32 ∉ a → 32 ∉ b → a ++ 32 :: x = b ++ 32 :: y → a = b ∧ x = y
  | [], [], x, y, _, _, e => ⟨rfl, by simpa using e⟩
  | [], c :: b, x, y, _, hb, e => by
    simp at e
    exact absurd (by rw [← e.1]; exact List.mem_cons_self) hb
  | c :: a, [], x, y, ha, _, e => by
    simp at e
    exact absurd (by rw [e.1]; exact List.mem_cons_self) ha
  | c :: a, d :: b, x, y, ha, hb, e => by
    simp at e
    obtain ⟨h1, h2⟩ := KI (fun z => ha (List.mem_cons_of_mem _ z)) (fun z => hb (List.mem_cons_of_mem _ z)) e.2
    exact ⟨by rw [e.1, h1], h2⟩
theorem XF : ∀ {A B : List (List Nat)}, A ≠ [] → B ≠ [] → (∀ a ∈ A, 32 ∉ a) → (∀ b ∈ B, 32 ∉ b) → jnB A = jnB B → A = B
  | [], _, h, _, _, _, _ => absurd rfl h
  | _, [], _, h, _, _, _ => absurd rfl h
  | [a], [b], _, _, _, _, e => by rw [show a = b from e]
  | [a], b :: c :: s, _, _, ha, _, e => by
    have e : a = b ++ 32 :: jnB (c :: s) := e
    exact absurd (by rw [e]; simp) (ha a List.mem_cons_self)
  | a :: d :: r, [b], _, _, _, hb, e => by
    have e : a ++ 32 :: jnB (d :: r) = b := e
    exact absurd (by rw [← e]; simp) (hb b List.mem_cons_self)
  | a :: d :: r, b :: c :: s, _, _, ha, hb, e => by
    have e : a ++ 32 :: jnB (d :: r) = b ++ 32 :: jnB (c :: s) := e
    obtain ⟨h1, h2⟩ := KI (ha a List.mem_cons_self) (hb b List.mem_cons_self) e
    rw [h1, XF (A := d :: r) (B := c :: s) (by simp) (by simp) (fun z hz => ha z (List.mem_cons_of_mem _ hz)) (fun z hz => hb z (List.mem_cons_of_mem _ hz)) h2]
noncomputable def sp1 : Str := Str.ofString " "
theorem Qc : sp1 = ⟨#[32]⟩ := by decide +kernel
theorem uB : ∀ ps : List Str, (Str.join sp1 ps).cps.toList = jnB (ps.map (·.cps.toList))
  | [] => rfl
  | [p] => rfl
  | p :: q :: r => by
    rw [join_cons_cons, zC, zC, uB (q :: r)]
    have e : sp1.cps.toList = [32] := by rw [Qc]
    have e2 : jnB ((p :: q :: r).map (·.cps.toList)) = p.cps.toList ++ 32 :: jnB ((q :: r).map (·.cps.toList)) := rfl
    rw [e, e2]
    simp
theorem v8 {A B : List Str} (h : A.map (·.cps.toList) = B.map (·.cps.toList)) : A = B := by
  induction A generalizing B with
  | nil => cases B with
    | nil => rfl
    | cons _ _ => cases h
  | cons a A ih => cases B with
    | nil => cases h
    | cons b B =>
      simp only [List.map_cons, List.cons.injEq] at h
      rw [xP h.1, ih h.2]
theorem uO {ws : List Str} (hn : ws ≠ []) (hf : ∀ w ∈ ws, 32 ∉ w.cps.toList) : Txt.split (Str.join sp1 ws) sp1 = ws := by
  apply v8
  refine XF ?_ (by simpa using hn) ?_ ?_ ?_
  · have := split_pos (Str.join sp1 ws) sp1
    intro e
    have : (Txt.split (Str.join sp1 ws) sp1).length = 0 := by simpa using congrArg List.length e
    omega
  · intro a ha
    obtain ⟨p, hp, rfl⟩ := List.mem_map.mp ha
    rw [Qc] at hp
    exact StrLaws.split_free _ 32 p hp
  · intro a ha
    obtain ⟨p, hp, rfl⟩ := List.mem_map.mp ha
    exact hf p hp
  · rw [← uB, ← uB, StrLaws.join_split]
theorem XG (a b : Nat) : Builtin.bitOr (a : Int) (b : Int) = ((a ||| b : Nat) : Int) := by
  have h1 : ¬ (0 : Int) ≤ Builtin.bitNot (a : Int) := by unfold Builtin.bitNot; omega
  have h2 : ¬ (0 : Int) ≤ Builtin.bitNot (b : Int) := by unfold Builtin.bitNot; omega
  have e : ∀ x : Int, Builtin.bitNot (Builtin.bitNot x) = x := fun x => by unfold Builtin.bitNot; omega
  unfold Builtin.bitOr Builtin.bitAnd
  rw [decide_eq_false h1, decide_eq_false h2]
  simp only [e, Int.toNat_natCast]
theorem vE (a b : Nat) : Builtin.bitAnd (a : Int) (b : Int) = ((a &&& b : Nat) : Int) := by
  unfold Builtin.bitAnd
  rw [decide_eq_true (Int.natCast_nonneg a), decide_eq_true (Int.natCast_nonneg b)]
  rfl
noncomputable def bitsD : List (Str × Int) := [(Str.ofString "bold", 64), (Str.ofString "under", 128), (Str.ofString "turned", 256)]
noncomputable def stepsD : List (Str × Int) := [(Str.ofString "fore", 1), (Str.ofString "back", 8)]
noncomputable def figs : List Str := [Str.ofString "0", Str.ofString "1", Str.ofString "2", Str.ofString "3", Str.ofString "4", Str.ofString "5", Str.ofString "6", Str.ofString "7"]
noncomputable def yQ (w : Str) : Nat := if w = Str.ofString "bold" then 64 else if w = Str.ofString "under" then 128 else if w = Str.ofString "turned" then 256 else 0
noncomputable def xB (w : Str) : Nat := if w = Str.ofString "fore" then 1 else if w = Str.ofString "back" then 8 else 0
theorem zaI (w : Str) : (xg bitsD w).getD 0 = (yQ w : Nat) := by
  unfold yQ bitsD
  simp only [xg]
  by_cases h1 : Str.ofString "bold" = w
  · rw [if_pos h1, if_pos h1.symm]; rfl
  · rw [if_neg h1, if_neg (Ne.symm h1)]
    by_cases h2 : Str.ofString "under" = w
    · rw [if_pos h2, if_pos h2.symm]; rfl
    · rw [if_neg h2, if_neg (Ne.symm h2)]
      by_cases h3 : Str.ofString "turned" = w
      · rw [if_pos h3, if_pos h3.symm]; rfl
      · rw [if_neg h3, if_neg (Ne.symm h3)]; rfl
theorem JG (w : Str) : (xg stepsD w).getD 0 = (xB w : Nat) := by
  unfold xB stepsD
  simp only [xg]
  by_cases h1 : Str.ofString "fore" = w
  · rw [if_pos h1, if_pos h1.symm]; rfl
  · rw [if_neg h1, if_neg (Ne.symm h1)]
    by_cases h2 : Str.ofString "back" = w
    · rw [if_pos h2, if_pos h2.symm]; rfl
    · rw [if_neg h2, if_neg (Ne.symm h2)]; rfl
noncomputable def uC (w : Str) : Nat := figs.findIdx (· == w)
noncomputable def yV (r : Nat × Str) (w : Str) : Nat × Str := (if w ∈ figs then (r.1 ||| yQ w) ||| uC w * xB r.2 else r.1 ||| yQ w, w)
noncomputable def lik (ws : List Str) : Nat := (ws.foldl yV (0, Str.ofString "")).1
theorem zaJ (w : Str) : yQ w < 512 := by unfold yQ; split <;> (try split) <;> (try split) <;> decide
theorem Qd {w : Str} (h : w ∈ figs) : uC w < 8 := List.findIdx_lt_length_of_exists ⟨w, h, by simp⟩
theorem JH (w : Str) : xB w ≤ 8 := by unfold xB; split <;> (try split) <;> decide
theorem zaK {r : Nat × Str} {w : Str} (h : r.1 < 512) : (yV r w).1 < 512 := by
  unfold yV
  have h1 : r.1 ||| yQ w < 2 ^ 9 := Nat.or_lt_two_pow h (zaJ w)
  simp only
  split
  · rename_i hf
    have h2 := Qd hf
    have h3 := JH r.2
    have h4 : uC w * xB r.2 ≤ 7 * 8 := Nat.mul_le_mul (by omega) h3
    exact Nat.or_lt_two_pow h1 (show uC w * xB r.2 < 2 ^ 9 by omega)
  · exact h1
theorem zcx (ws : List Str) : lik ws < 512 := by
  unfold lik
  have key : ∀ (ws : List Str) (r : Nat × Str), r.1 < 512 → (ws.foldl yV r).1 < 512 := by
    intro ws
    induction ws with
    | nil => exact fun _ h => h
    | cons w ws ih => exact fun r h => ih _ (zaK h)
  exact key ws _ (by decide)
noncomputable def xQ : Str := Str.ofString "bold"
noncomputable def vg : Str := Str.ofString "under"
noncomputable def vh : Str := Str.ofString "turned"
noncomputable def xC : Str := Str.ofString "fore"
noncomputable def vF : Str := Str.ofString "back"
noncomputable def fig (k : Nat) : Str := ⟨#[48 + k]⟩
noncomputable def bun (n : Nat) : List (List Str) := (if n / 64 % 2 = 1 then [[xQ]] else []) ++ (if n / 128 % 2 = 1 then [[vg]] else []) ++ (if n / 256 % 2 = 1 then [[vh]] else []) ++ (if n % 8 = 0 then [] else [[xC, fig (n % 8)]]) ++ (if n / 8 % 8 = 0 then [] else [[vF, fig (n / 8 % 8)]])
noncomputable def wl (n : Nat) : List Str := (bun n).flatten
noncomputable def yt (n : Nat) : Str := if n = 0 then Str.ofString "plain" else Str.join sp1 ((bun n).map (Str.join sp1))
theorem qH (a b : Str) (r : List Str) : Str.join sp1 (a :: b :: r) = a ++ sp1 ++ Str.join sp1 (b :: r) := rfl
theorem Qe (a b c : Str) : a ++ b ++ c = a ++ (b ++ c) := by
  apply xP
  rw [zC, zC, zC, zC, List.append_assoc]
theorem Z9 : ∀ {A B : List Str}, A ≠ [] → B ≠ [] → Str.join sp1 (A ++ B) = Str.join sp1 A ++ sp1 ++ Str.join sp1 B
  | [], _, h, _ => absurd rfl h
  | [a], b :: B, _, _ => by
    rw [List.singleton_append, qH]
    rfl
  | [a], [], _, h => absurd rfl h
  | a :: c :: A, B, _, hB => by
    rw [List.cons_append, List.cons_append, qH, ← List.cons_append, Z9 (A := c :: A) (by simp) hB, qH]
    simp only [Qe]
theorem Ya : ∀ {L : List (List Str)}, (∀ l ∈ L, l ≠ []) → Str.join sp1 (L.map (Str.join sp1)) = Str.join sp1 L.flatten
  | [], _ => rfl
  | [l], _ => by
    rw [List.map_singleton, List.flatten_singleton]
    rfl
  | l :: m :: L, h => by
    have ih := Ya (L := m :: L) fun x hx => h x (List.mem_cons_of_mem _ hx)
    have e0 : (l :: m :: L).flatten = l ++ (m :: L).flatten := rfl
    have e1 : (l :: m :: L).map (Str.join sp1) = Str.join sp1 l :: Str.join sp1 m :: L.map (Str.join sp1) := rfl
    rw [e0, e1, qH, show Str.join sp1 m :: L.map (Str.join sp1) = (m :: L).map (Str.join sp1) from rfl, ih, Z9 (h l List.mem_cons_self)]
    intro e
    have hm := h m (by simp)
    simp only [List.flatten_cons, List.append_eq_nil_iff] at e
    exact hm e.1
theorem zcy (n : Nat) : ∀ l ∈ bun n, l ≠ [] := by
  intro l hl
  unfold bun at hl
  simp only [List.mem_append] at hl
  rcases hl with (((hl | hl) | hl) | hl) | hl <;> split at hl <;> simp at hl <;> subst hl <;> simp
theorem KJ {n : Nat} (h0 : n ≠ 0) (h : n < 512) : wl n ≠ [] := by
  unfold wl bun
  intro e
  simp only [List.flatten_append, List.append_eq_nil_iff] at e
  obtain ⟨⟨⟨⟨e1, e2⟩, e3⟩, e4⟩, e5⟩ := e
  have g1 : n / 64 % 2 ≠ 1 := fun z => by rw [if_pos z] at e1; simp at e1
  have g2 : n / 128 % 2 ≠ 1 := fun z => by rw [if_pos z] at e2; simp at e2
  have g3 : n / 256 % 2 ≠ 1 := fun z => by rw [if_pos z] at e3; simp at e3
  have g4 : n % 8 = 0 := Classical.byContradiction fun z => by rw [if_neg z] at e4; simp at e4
  have g5 : n / 8 % 8 = 0 := Classical.byContradiction fun z => by rw [if_neg z] at e5; simp at e5
  omega
theorem zaL {n : Nat} (h0 : n ≠ 0) : yt n = Str.join sp1 (wl n) := by
  unfold yt
  rw [if_neg h0, Ya (zcy n)]
  rfl
theorem kU : (32 ∉ xQ.cps.toList) ∧ (32 ∉ vg.cps.toList) ∧ (32 ∉ vh.cps.toList) ∧ (32 ∉ xC.cps.toList) ∧ (32 ∉ vF.cps.toList) ∧ 32 ∉ (Str.ofString "plain").cps.toList := by decide +kernel
theorem zaM (n : Nat) : ∀ w ∈ wl n, 32 ∉ w.cps.toList := by
  intro w hw
  obtain ⟨f1, f2, f3, f4, f5, _⟩ := kU
  have ff : ∀ k, 32 ∉ (fig k).cps.toList := fun k m => by
    have : 32 = 48 + k := by simpa [fig] using m
    omega
  unfold wl at hw
  obtain ⟨l, hl, hw⟩ := List.mem_flatten.1 hw
  unfold bun at hl
  simp only [List.mem_append] at hl
  rcases hl with (((hl | hl) | hl) | hl) | hl <;> split at hl <;> simp at hl <;> subst hl <;> simp at hw
  · rw [hw]; exact f1
  · rw [hw]; exact f2
  · rw [hw]; exact f3
  · rcases hw with rfl | rfl
    · exact f4
    · exact ff _
  · rcases hw with rfl | rfl
    · exact f5
    · exact ff _
theorem Qf {n : Nat} (h0 : n ≠ 0) (h : n < 512) : Txt.split (yt n) sp1 = wl n := by
  rw [zaL h0]
  exact uO (KJ h0 h) (zaM n)
theorem YT : Txt.split (Str.ofString "plain") sp1 = [Str.ofString "plain"] := by
  have := uO (ws := [Str.ofString "plain"]) (by simp) (fun w hw => by cases List.mem_singleton.1 hw; exact kU.2.2.2.2.2)
  exact this
theorem zaN {k : Nat} (h : k < 8) : fig k ∈ figs ∧ uC (fig k) = k ∧ yQ (fig k) = 0 := by
  have : ∀ k : _root_.Fin 8, fig k.val ∈ figs ∧ uC (fig k.val) = k.val ∧ yQ (fig k.val) = 0 := by decide +kernel
  exact this ⟨k, h⟩
theorem uD : (xQ ∉ figs ∧ yQ xQ = 64) ∧ (vg ∉ figs ∧ yQ vg = 128) ∧ (vh ∉ figs ∧ yQ vh = 256) ∧ (xC ∉ figs ∧ yQ xC = 0 ∧ xB xC = 1) ∧ (vF ∉ figs ∧ yQ vF = 0 ∧ xB vF = 8) ∧ (Str.ofString "plain" ∉ figs ∧ yQ (Str.ofString "plain") = 0) := by decide +kernel
theorem jg {r : Nat} {a w : Str} (h : w ∉ figs) : yV (r, a) w = (r ||| yQ w, w) := by unfold yV; rw [if_neg h]
theorem zaO {r k : Nat} {a : Str} (h : k < 8) : yV (r, a) (fig k) = (r ||| k * xB a, fig k) := by
  obtain ⟨h1, h2, h3⟩ := zaN h
  unfold yV
  rw [if_pos h1, h2, h3, Nat.or_zero]
theorem zcz : ∀ n : _root_.Fin 512, ((((0 ||| (if n.val / 64 % 2 = 1 then 64 else 0)) ||| (if n.val / 128 % 2 = 1 then 128 else 0)) ||| (if n.val / 256 % 2 = 1 then 256 else 0)) ||| n.val % 8) ||| n.val / 8 % 8 * 8 = n.val := by decide +kernel
theorem kh {r : Nat} {a : Str} {c : Prop} [Decidable c] {w : Str} (h : w ∉ figs) : ∃ b, ((if c then [[w]] else []).flatten).foldl yV (r, a) = (r ||| (if c then yQ w else 0), b) := by
  by_cases hc : c
  · rw [if_pos hc, if_pos hc]
    exact ⟨w, by simp [jg h]⟩
  · rw [if_neg hc, if_neg hc]
    exact ⟨a, by simp⟩
theorem XH {r k : Nat} {a w : Str} (hk : k < 8) (h : w ∉ figs) (hb : yQ w = 0) : ∃ b, ((if k = 0 then [] else [[w, fig k]]).flatten).foldl yV (r, a) = (r ||| k * xB w, b) := by
  by_cases hc : k = 0
  · rw [if_pos hc]
    exact ⟨a, by simp [hc]⟩
  · rw [if_neg hc]
    exact ⟨fig k, by simp [jg h, hb, zaO hk]⟩
theorem zcA {n : Nat} (h : n < 512) : lik (wl n) = n := by
  obtain ⟨⟨b1, b2⟩, ⟨u1, u2⟩, ⟨t1, t2⟩, ⟨f1, f2, f3⟩, ⟨k1, k2, k3⟩, _⟩ := uD
  unfold lik wl bun
  simp only [List.flatten_append, List.foldl_append]
  obtain ⟨a1, e1⟩ := kh (r := 0) (a := Str.ofString "") (c := n / 64 % 2 = 1) b1
  rw [e1, b2]
  obtain ⟨a2, e2⟩ := kh (r := 0 ||| (if n / 64 % 2 = 1 then 64 else 0)) (a := a1) (c := n / 128 % 2 = 1) u1
  rw [e2, u2]
  obtain ⟨a3, e3⟩ := kh (r := (0 ||| (if n / 64 % 2 = 1 then 64 else 0)) ||| (if n / 128 % 2 = 1 then 128 else 0)) (a := a2) (c := n / 256 % 2 = 1) t1
  rw [e3, t2]
  obtain ⟨a4, e4⟩ := XH (r := ((0 ||| (if n / 64 % 2 = 1 then 64 else 0)) ||| (if n / 128 % 2 = 1 then 128 else 0)) ||| (if n / 256 % 2 = 1 then 256 else 0)) (a := a3) (k := n % 8) (by omega) f1 f2
  rw [e4, f3, Nat.mul_one]
  obtain ⟨a5, e5⟩ := XH (r := (((0 ||| (if n / 64 % 2 = 1 then 64 else 0)) ||| (if n / 128 % 2 = 1 then 128 else 0)) ||| (if n / 256 % 2 = 1 then 256 else 0)) ||| n % 8) (a := a4) (k := n / 8 % 8) (by omega) k1 k2
  rw [e5, k3]
  exact zcz ⟨n, h⟩
theorem zaP {n : Nat} (h : n < 512) : lik (Txt.split (yt n) sp1) = n := by
  by_cases h0 : n = 0
  · subst h0
    have e : yt 0 = Str.ofString "plain" := rfl
    rw [e, YT]
    unfold lik
    rw [List.foldl_cons, List.foldl_nil, jg uD.2.2.2.2.2.1, uD.2.2.2.2.2.2]
    rfl
  · rw [Qf h0 h, zcA h]
end L2
namespace PySem
open Sem (wp)
noncomputable abbrev ya (h : Heap) (z TI TO : Addr) (f0 : Value) (f1 : Bool) : Prop :=
  h.get? z = some { cls := .type "zip", dict := none, data := .fields #[f0, .bool f1, .bool false, .ref TI, .ref TO], slots := #[] }
structure ZlApart (z TI TO i1 i2 : Addr) (fp1 fp2 : List Addr) : Prop where
  TIz : TI ≠ z
  TOz : TO ≠ z
  i1z : i1 ≠ z
  i2z : i2 ≠ z
  TITO : TI ≠ TO
  TIi1 : TI ≠ i1
  TIi2 : TI ≠ i2
  TOi1 : TO ≠ i1
  TOi2 : TO ≠ i2
  i12 : i1 ≠ i2
  z1 : z ∉ fp1
  z2 : z ∉ fp2
  o1 : TO ∉ fp1
  o2 : TO ∉ fp2
  i1f : i1 ∉ fp2
  i2f : i2 ∉ fp1
section
variable {prog : Program} {w : World} {A : Around} {E : Value → Shared → Prop} {s : Shared}
theorem qM {M : Model} {a : Addr} {Q : Option Obj → Shared → Prop} (h : Q (s.heap.get? a) s) : wpAny M A (loadIfAlive a) Q E s := fun _ _ _ => h
variable {z TI TO i1 i2 : Addr} {fp1 fp2 : List Addr} {n1 n2 : Nat} {P1 P2 : Nat → Value → Prop} {St1 St2 : Nat → Heap → Prop}
noncomputable def ZlS (z TI TO i1 i2 : Addr) (St1 St2 : Nat → Heap → Prop) (k : Nat) (h : Heap) : Prop :=
  ∃ f0 f1 a b, ya h z TI TO f0 f1 ∧ ((f0 = .none ∧ f1 = false) ∨ ∃ (t : Addr) (o : Obj), f0 = rawInt (t : Nat) ∧ h.get? t = some o ∧ t ≠ z ∧ t ≠ TO ∧ t ≠ i1 ∧ t ≠ i2) ∧ IsPair h TI (.ref i1) (.ref i2) ∧ IsPair h TO a b ∧ St1 k h ∧ St2 k h
theorem Yb {k : Nat} {a b : Value} {Q : Value → Shared → Prop} (D : ZlApart z TI TO i1 i2 fp1 fp2) (D1 : Draws prog w A i1 fp1 n1 P1 St1) (D2 : Draws prog w A i2 fp2 n2 P2 St2)
    (hz : ya s.heap z TI TO .none false) (hTI : IsPair s.heap TI (.ref i1) (.ref i2)) (hTO : IsPair s.heap TO a b) (h1 : St1 k s.heap) (h2 : St2 k s.heap) (k1 : k < n1) (k2 : k < n2)
    (hQ : ∀ x y h' tk, P1 k x → P2 k y → IsPair h' s.heap.objs.size x y → ZlS z TI TO i1 i2 St1 St2 (k + 1) h' → (∀ c o, c ≠ z → c ≠ TO → c ≠ i1 → c ≠ i2 → s.heap.get? c = some o → h'.get? c = some o) → Q (.ref s.heap.objs.size) { s with heap := h', toks := tk }) :
    wpAny (model prog w) A (Builtin.«zip.__next__» ⟨[.ref z], []⟩) (fun fin s' => ∃ v, fin = .done (.ret v) ∧ Q v s') E s := by
  show wpAny _ _ (field (.ref z) 2 >>= _) _ _ _
  refine wpAny_bind (wpAny_field hz rfl (x := .bool false) rfl ?_)
  show wpAny _ _ (field (.ref z) 3 >>= _) _ _ _
  refine wpAny_bind (wpAny_field hz rfl (x := .ref TI) rfl ?_)
  refine wpAny_bind (wpAny_seqItems hTI rfl ?_)
  show wpAny _ _ (Builtin.SmallTypes.ownedTupleIsFree (.ref z) >>= _) _ _ _
  refine wpAny_bind ?_
  unfold Builtin.SmallTypes.ownedTupleIsFree
  refine wpAny_bind (wpAny_field hz rfl (x := .none) rfl (wpAny_pure ?_))
  simp only [if_true]
  refine wpAny_bind (wpAny_rule ?_)
  refine wpAny_bind (wpAny_field hz rfl (x := .ref TO) rfl ?_)
  refine wpAny_bind (wpAny_setField_rec hz (by simp) fun h₁ hz₁ hs₁ => ?_)
  replace hz₁ : ya h₁ z TI TO .ellipsis false := hz₁
  refine wpAny_bind ?_
  simp only [List.zipIdx_cons, List.zipIdx_nil, List.forIn_cons, List.forIn_nil]
  refine wpAny_bind (wpAny_bind (wpAny_onRaise ?_))
  show wpAny _ _ (Builtin.SmallTypes.nextOf (.ref i1) >>= _) _ _ _
  refine wpAny_bind (D1.item k _ _ _ k1 (D1.frame k _ _ h1 fun c hc o e => hs₁.extBut _ _ (fun q => D.z1 (q ▸ hc)) e) fun x h₂ tk hx h1₂ hs₂ => wpAny_pure ?_)
  replace hs₂ : Heap.SameBut i1 h₁ h₂ := hs₂
  have hTO₂ : IsPair h₂ TO a b := hs₂.extBut _ _ D.TOi1 (hs₁.extBut _ _ D.TOz hTO)
  refine wpAny_bind (wpAny_seqItems hTO₂ rfl ?_)
  refine wpAny_bind (wpAny_updateSeq_pair hTO₂ fun h₃ hTO₃ hs₃ => ?_)
  replace hTO₃ : IsPair h₃ TO x b := hTO₃
  refine wpAny_bind (wpAny_letGo (wpAny_pure ?_))
  refine wpAny_bind (wpAny_bind (wpAny_onRaise ?_))
  show wpAny _ _ (Builtin.SmallTypes.nextOf (.ref i2) >>= _) _ _ _
  refine wpAny_bind (D2.item k _ _ _ k2 (D2.frame k _ _ h2 fun c hc o e => hs₃.extBut _ _ (fun q => D.o2 (q ▸ hc)) (hs₂.extBut _ _ (fun q => D.i1f (q ▸ hc)) (hs₁.extBut _ _ (fun q => D.z2 (q ▸ hc)) e))) fun y h₄ tk' hy h2₄ hs₄ => wpAny_pure ?_)
  replace hs₄ : Heap.SameBut i2 h₃ h₄ := hs₄
  have hTO₄ : IsPair h₄ TO x b := hs₄.extBut _ _ D.TOi2 hTO₃
  refine wpAny_bind (wpAny_seqItems hTO₄ rfl ?_)
  refine wpAny_bind (wpAny_updateSeq_pair hTO₄ fun h₅ hTO₅ hs₅ => ?_)
  replace hTO₅ : IsPair h₅ TO x y := hTO₅
  refine wpAny_bind (wpAny_letGo (wpAny_pure (wpAny_pure ?_)))
  refine wpAny_bind (wpAny_seqItems hTO₅ rfl ?_)
  refine wpAny_bind (wpAny_newTuple ?_)
  have hsz : h₅.objs.size = s.heap.objs.size := by rw [hs₅.1, hs₄.1, hs₃.1, hs₂.1, hs₁.1]
  have hz₅ : ya h₅ z TI TO .ellipsis false := hs₅.extBut _ _ D.TOz.symm (hs₄.extBut _ _ D.i2z.symm (hs₃.extBut _ _ D.TOz.symm (hs₂.extBut _ _ D.i1z.symm hz₁)))
  have hk₅ : ∀ c o, c ≠ z → c ≠ TO → c ≠ i1 → c ≠ i2 → s.heap.get? c = some o → h₅.get? c = some o := fun c o c1 c2 c3 c4 e =>
    hs₅.extBut _ _ c2 (hs₄.extBut _ _ c4 (hs₃.extBut _ _ c2 (hs₂.extBut _ _ c3 (hs₁.extBut _ _ c1 e))))
  have h1₅ : St1 (k + 1) h₅ := D1.frame _ _ _ h1₂ fun c hc o e => hs₅.extBut _ _ (fun q => D.o1 (q ▸ hc)) (hs₄.extBut _ _ (fun q => D.i2f (q ▸ hc)) (hs₃.extBut _ _ (fun q => D.o1 (q ▸ hc)) e))
  have h2₅ : St2 (k + 1) h₅ := D2.frame _ _ _ h2₄ fun c hc o e => hs₅.extBut _ _ (fun q => D.o2 (q ▸ hc)) e
  have hzlt : z < h₅.objs.size := Heap.lt_size hz₅
  have hTOlt : TO < h₅.objs.size := Heap.lt_size hTO₅
  have hi1lt : i1 < h₅.objs.size := by obtain ⟨_, e⟩ := D1.live _ _ h1₅; exact Heap.lt_size e
  have hi2lt : i2 < h₅.objs.size := by obtain ⟨_, e⟩ := D2.live _ _ h2₅; exact Heap.lt_size e
  show wpAny _ _ (Builtin.SmallTypes.ownedTupleHandOut (.ref z) (.ref h₅.objs.size) >>= _) _ _ _
  refine wpAny_bind ?_
  unfold Builtin.SmallTypes.ownedTupleHandOut
  have hz₆ : ya (h₅.push { cls := .type "tuple", data := .seq #[x, y] }) z TI TO .ellipsis false := Heap.get?_push_of_some _ hz₅
  refine wpAny_bind (wpAny_setField_rec hz₆ (by simp) fun h₇ hz₇ hs₇ => ?_)
  replace hz₇ : ya h₇ z TI TO (rawInt h₅.objs.size) false := hz₇
  refine wpAny_setField_rec hz₇ (by simp) fun h₈ hz₈ hs₈ => ?_
  replace hz₈ : ya h₈ z TI TO (rawInt h₅.objs.size) false := hz₈
  have up : ∀ c o, c ≠ z → h₅.get? c = some o → h₈.get? c = some o := fun c o c1 e => hs₈.extBut _ _ c1 (hs₇.extBut _ _ c1 (Heap.get?_push_of_some _ e))
  have hT₈ : IsPair h₈ h₅.objs.size x y := hs₈.extBut _ _ (Nat.ne_of_gt hzlt) (hs₇.extBut _ _ (Nat.ne_of_gt hzlt) (Heap.get?_push_size _ rfl))
  have fin : ZlS z TI TO i1 i2 St1 St2 (k + 1) h₈ := ⟨_, _, x, y, hz₈, .inr ⟨_, _, rfl, hT₈, Nat.ne_of_gt hzlt, Nat.ne_of_gt hTOlt, Nat.ne_of_gt hi1lt, Nat.ne_of_gt hi2lt⟩, up _ _ D.TIz (hk₅ _ _ D.TIz D.TITO D.TIi1 D.TIi2 hTI), up _ _ D.TOz hTO₅,
    D1.frame _ _ _ h1₅ fun c hc o e => up _ _ (fun q => D.z1 (q ▸ hc)) e, D2.frame _ _ _ h2₅ fun c hc o e => up _ _ (fun q => D.z2 (q ▸ hc)) e⟩
  refine wpAny_pure ⟨_, rfl, ?_⟩
  show Q (.ref h₅.objs.size) _
  rw [hsz] at hT₈ ⊢
  exact hQ x y h₈ tk' hx hy hT₈ fin fun c o c1 c2 c3 c4 e => up c o c1 (hk₅ c o c1 c2 c3 c4 e)
theorem jJ {f1 : Bool} {t : Addr} {o0 : Obj} {Q : Bool → Shared → Prop} (hz : ya s.heap z TI TO (rawInt (t : Nat)) f1) (ht : s.heap.get? t = some o0)
    (h : ∀ h₁, ya h₁ z TI TO (rawInt (t : Nat)) true → (∀ c o, c ≠ z → s.heap.get? c = some o → h₁.get? c = some o) → h₁.objs.size = s.heap.objs.size → Q false { s with heap := h₁ }) :
    wpAny (model prog w) A (Builtin.SmallTypes.ownedTupleIsFree (.ref z)) Q E s := by
  unfold Builtin.SmallTypes.ownedTupleIsFree
  refine wpAny_bind (wpAny_field hz rfl (x := rawInt (t : Nat)) rfl ?_)
  show wpAny _ _ (loadIfAlive ((t : Int).toNat) >>= _) _ _ _
  rw [Int.toNat_natCast]
  refine wpAny_bind (qM ?_)
  rw [ht, if_neg (by simp)]
  refine wpAny_bind (wpAny_field hz rfl (x := .bool f1) rfl ?_)
  cases f1 with
  | true =>
    rw [if_neg (by decide)]
    exact wpAny_pure (h s.heap hz (fun _ _ _ e => e) rfl)
  | false =>
    rw [if_pos (by decide)]
    refine wpAny_bind (wpAny_setField_rec hz (by simp) fun h₁ hz₁ hs₁ => wpAny_pure (h h₁ hz₁ (fun c o hc e => hs₁.extBut _ _ hc e) hs₁.1))
theorem YU {k : Nat} {a b : Value} {f1 : Bool} {t : Addr} {o0 : Obj} {Q : Value → Shared → Prop} (D : ZlApart z TI TO i1 i2 fp1 fp2) (D1 : Draws prog w A i1 fp1 n1 P1 St1) (D2 : Draws prog w A i2 fp2 n2 P2 St2)
    (hz : ya s.heap z TI TO (rawInt (t : Nat)) f1) (ht : s.heap.get? t = some o0) (tz : t ≠ z) (tO : t ≠ TO) (t1 : t ≠ i1) (t2 : t ≠ i2) (hTI : IsPair s.heap TI (.ref i1) (.ref i2)) (hTO : IsPair s.heap TO a b) (h1 : St1 k s.heap) (h2 : St2 k s.heap) (k1 : k < n1) (k2 : k < n2)
    (hQ : ∀ x y h' tk, P1 k x → P2 k y → IsPair h' s.heap.objs.size x y → ZlS z TI TO i1 i2 St1 St2 (k + 1) h' → (∀ c o, c ≠ z → c ≠ TO → c ≠ i1 → c ≠ i2 → s.heap.get? c = some o → h'.get? c = some o) → Q (.ref s.heap.objs.size) { s with heap := h', toks := tk }) :
    wpAny (model prog w) A (Builtin.«zip.__next__» ⟨[.ref z], []⟩) (fun fin s' => ∃ v, fin = .done (.ret v) ∧ Q v s') E s := by
  show wpAny _ _ (field (.ref z) 2 >>= _) _ _ _
  refine wpAny_bind (wpAny_field hz rfl (x := .bool false) rfl ?_)
  show wpAny _ _ (field (.ref z) 3 >>= _) _ _ _
  refine wpAny_bind (wpAny_field hz rfl (x := .ref TI) rfl ?_)
  refine wpAny_bind (wpAny_seqItems hTI rfl ?_)
  show wpAny _ _ (Builtin.SmallTypes.ownedTupleIsFree (.ref z) >>= _) _ _ _
  refine wpAny_bind (jJ hz ht fun h₁ hz₁ hk₁ hsz₁ => ?_)
  rw [if_neg (by decide)]
  refine wpAny_bind ?_
  rw [← Array.forIn_toList]
  simp only [List.forIn_cons, List.forIn_nil]
  refine wpAny_bind (wpAny_bind (wpAny_holding ?_))
  show wpAny _ _ (Builtin.SmallTypes.nextOf (.ref i1) >>= _) _ _ _
  refine wpAny_bind (D1.item k _ _ _ k1 (D1.frame k _ _ h1 fun c hc o e => hk₁ _ _ (fun q => D.z1 (q ▸ hc)) e) fun x h₂ tk hx h1₂ hs₂ => wpAny_pure ?_)
  replace hs₂ : Heap.SameBut i1 h₁ h₂ := hs₂
  refine wpAny_pure ?_
  refine wpAny_bind (wpAny_bind (wpAny_holding ?_))
  show wpAny _ _ (Builtin.SmallTypes.nextOf (.ref i2) >>= _) _ _ _
  refine wpAny_bind (D2.item k _ _ _ k2 (D2.frame k _ _ h2 fun c hc o e => hs₂.extBut _ _ (fun q => D.i1f (q ▸ hc)) (hk₁ _ _ (fun q => D.z2 (q ▸ hc)) e)) fun y h₃ tk' hy h2₃ hs₃ => wpAny_pure ?_)
  replace hs₃ : Heap.SameBut i2 h₂ h₃ := hs₃
  refine wpAny_pure (wpAny_pure ?_)
  refine wpAny_bind (wpAny_newTuple (hsz := by show (2 : Nat) ≤ 2 ^ 24; decide) ?_)
  have hsz : h₃.objs.size = s.heap.objs.size := by rw [hs₃.1, hs₂.1, hsz₁]
  have up : ∀ c o, c ≠ z → c ≠ i1 → c ≠ i2 → s.heap.get? c = some o → (h₃.push { cls := .type "tuple", data := .seq #[x, y] }).get? c = some o := fun c o c1 c2 c3 e => Heap.get?_push_of_some _ (hs₃.extBut _ _ c3 (hs₂.extBut _ _ c2 (hk₁ _ _ c1 e)))
  have hz₃ : ya (h₃.push { cls := .type "tuple", data := .seq #[x, y] }) z TI TO (rawInt (t : Nat)) true := Heap.get?_push_of_some _ (hs₃.extBut _ _ D.i2z.symm (hs₂.extBut _ _ D.i1z.symm hz₁))
  have fin : ZlS z TI TO i1 i2 St1 St2 (k + 1) (h₃.push { cls := .type "tuple", data := .seq #[x, y] }) := ⟨_, _, a, b, hz₃, .inr ⟨t, o0, rfl, up _ _ tz t1 t2 ht, tz, tO, t1, t2⟩, up _ _ D.TIz D.TIi1 D.TIi2 hTI, up _ _ D.TOz D.TOi1 D.TOi2 hTO,
    D1.frame _ _ _ h1₂ fun c hc o e => Heap.get?_push_of_some _ (hs₃.extBut _ _ (fun q => D.i2f (q ▸ hc)) e), D2.frame _ _ _ h2₃ fun c hc o e => Heap.get?_push_of_some _ e⟩
  have hT : IsPair (h₃.push { cls := .type "tuple", data := .seq #[x, y] }) h₃.objs.size x y := Heap.get?_push_size _ rfl
  refine wpAny_pure ⟨_, rfl, ?_⟩
  show Q (.ref h₃.objs.size) _
  rw [hsz] at hT ⊢
  exact hQ x y _ tk' hx hy hT fin fun c o c1 c2 c3 c4 e => up c o c1 c3 c4 e
theorem YV {k : Nat} {a b : Value} {Q : Fin → Shared → Prop} (D : ZlApart z TI TO i1 i2 fp1 fp2) (D1 : Draws prog w A i1 fp1 n1 P1 St1) (D2 : Draws prog w A i2 fp2 n2 P2 St2)
    (hz : ya s.heap z TI TO .none false) (hTI : IsPair s.heap TI (.ref i1) (.ref i2)) (hTO : IsPair s.heap TO a b) (h1 : St1 k s.heap) (h2 : St2 k s.heap) (hend : k = n1 ∨ (k < n1 ∧ k = n2))
    (hE : ∀ h' e tk, (∀ c o, c ≠ z → c ≠ TO → c ≠ i1 → c ≠ i2 → s.heap.get? c = some o → h'.get? c = some o) → (∃ o, h'.get? e = some o ∧ o.cls = .type "StopIteration") → E (.ref e) { s with heap := h', toks := tk }) :
    wpAny (model prog w) A (Builtin.«zip.__next__» ⟨[.ref z], []⟩) Q E s := by
  show wpAny _ _ (field (.ref z) 2 >>= _) _ _ _
  refine wpAny_bind (wpAny_field hz rfl (x := .bool false) rfl ?_)
  show wpAny _ _ (field (.ref z) 3 >>= _) _ _ _
  refine wpAny_bind (wpAny_field hz rfl (x := .ref TI) rfl ?_)
  refine wpAny_bind (wpAny_seqItems hTI rfl ?_)
  show wpAny _ _ (Builtin.SmallTypes.ownedTupleIsFree (.ref z) >>= _) _ _ _
  refine wpAny_bind ?_
  unfold Builtin.SmallTypes.ownedTupleIsFree
  refine wpAny_bind (wpAny_field hz rfl (x := .none) rfl (wpAny_pure ?_))
  simp only [if_true]
  refine wpAny_bind (wpAny_rule ?_)
  refine wpAny_bind (wpAny_field hz rfl (x := .ref TO) rfl ?_)
  refine wpAny_bind (wpAny_setField_rec hz (by simp) fun h₁ hz₁ hs₁ => ?_)
  replace hz₁ : ya h₁ z TI TO .ellipsis false := hz₁
  refine wpAny_bind ?_
  simp only [List.zipIdx_cons, List.zipIdx_nil, List.forIn_cons, List.forIn_nil]
  refine wpAny_bind (wpAny_bind (wpAny_onRaise ?_))
  show wpAny _ _ (Builtin.SmallTypes.nextOf (.ref i1) >>= _) _ _ _
  have g1 : St1 k h₁ := D1.frame k _ _ h1 fun c hc o e => hs₁.extBut _ _ (fun q => D.z1 (q ▸ hc)) e
  rcases hend with rfl | ⟨k1, rfl⟩
  · refine wpAny_bind (D1.done _ _ _ g1 fun h₂ e hs₂ he => ?_)
    obtain ⟨oe, hoe, hce⟩ := he
    have hz₂ : ya h₂ z TI TO .ellipsis false := hs₂ _ _ D.i1z.symm hz₁
    have hez : e ≠ z := fun x => by subst x; rw [hz₂] at hoe; cases hoe; simp at hce
    refine wpAny_setField_rec hz₂ (by simp) fun h₃ _ hs₃ => hE h₃ e s.toks (fun c o c1 _ c3 _ x => hs₃.extBut _ _ c1 (hs₂ _ _ c3 (hs₁.extBut _ _ c1 x))) ⟨oe, hs₃.extBut _ _ hez hoe, hce⟩
  · refine wpAny_bind (D1.item k _ _ _ k1 g1 fun x h₂ tk hx h1₂ hs₂ => wpAny_pure ?_)
    replace hs₂ : Heap.SameBut i1 h₁ h₂ := hs₂
    have hTO₂ : IsPair h₂ TO a b := hs₂.extBut _ _ D.TOi1 (hs₁.extBut _ _ D.TOz hTO)
    refine wpAny_bind (wpAny_seqItems hTO₂ rfl ?_)
    refine wpAny_bind (wpAny_updateSeq_pair hTO₂ fun h₃ hTO₃ hs₃ => ?_)
    refine wpAny_bind (wpAny_letGo (wpAny_pure ?_))
    refine wpAny_bind (wpAny_bind (wpAny_onRaise ?_))
    show wpAny _ _ (Builtin.SmallTypes.nextOf (.ref i2) >>= _) _ _ _
    refine wpAny_bind (D2.done _ _ _ (D2.frame k _ _ h2 fun c hc o e => hs₃.extBut _ _ (fun q => D.o2 (q ▸ hc)) (hs₂.extBut _ _ (fun q => D.i1f (q ▸ hc)) (hs₁.extBut _ _ (fun q => D.z2 (q ▸ hc)) e))) fun h₄ e hs₄ he => ?_)
    obtain ⟨oe, hoe, hce⟩ := he
    have hz₄ : ya h₄ z TI TO .ellipsis false := hs₄ _ _ D.i2z.symm (hs₃.extBut _ _ D.TOz.symm (hs₂.extBut _ _ D.i1z.symm hz₁))
    have hez : e ≠ z := fun x => by subst x; rw [hz₄] at hoe; cases hoe; simp at hce
    refine wpAny_setField_rec hz₄ (by simp) fun h₅ _ hs₅ => hE h₅ e tk (fun c o c1 c2 c3 c4 x => hs₅.extBut _ _ c1 (hs₄ _ _ c4 (hs₃.extBut _ _ c2 (hs₂.extBut _ _ c3 (hs₁.extBut _ _ c1 x))))) ⟨oe, hs₅.extBut _ _ hez hoe, hce⟩
theorem Vw {k : Nat} {f1 : Bool} {t : Addr} {o0 : Obj} {Q : Fin → Shared → Prop} (D : ZlApart z TI TO i1 i2 fp1 fp2) (D1 : Draws prog w A i1 fp1 n1 P1 St1) (D2 : Draws prog w A i2 fp2 n2 P2 St2)
    (hz : ya s.heap z TI TO (rawInt (t : Nat)) f1) (ht : s.heap.get? t = some o0) (hTI : IsPair s.heap TI (.ref i1) (.ref i2)) (h1 : St1 k s.heap) (h2 : St2 k s.heap) (hend : k = n1 ∨ (k < n1 ∧ k = n2))
    (hE : ∀ h' e tk, (∀ c o, c ≠ z → c ≠ TO → c ≠ i1 → c ≠ i2 → s.heap.get? c = some o → h'.get? c = some o) → (∃ o, h'.get? e = some o ∧ o.cls = .type "StopIteration") → E (.ref e) { s with heap := h', toks := tk }) :
    wpAny (model prog w) A (Builtin.«zip.__next__» ⟨[.ref z], []⟩) Q E s := by
  show wpAny _ _ (field (.ref z) 2 >>= _) _ _ _
  refine wpAny_bind (wpAny_field hz rfl (x := .bool false) rfl ?_)
  show wpAny _ _ (field (.ref z) 3 >>= _) _ _ _
  refine wpAny_bind (wpAny_field hz rfl (x := .ref TI) rfl ?_)
  refine wpAny_bind (wpAny_seqItems hTI rfl ?_)
  show wpAny _ _ (Builtin.SmallTypes.ownedTupleIsFree (.ref z) >>= _) _ _ _
  refine wpAny_bind (jJ hz ht fun h₁ hz₁ hk₁ hsz₁ => ?_)
  rw [if_neg (by decide)]
  refine wpAny_bind ?_
  rw [← Array.forIn_toList]
  simp only [List.forIn_cons, List.forIn_nil]
  refine wpAny_bind (wpAny_bind (wpAny_holding ?_))
  show wpAny _ _ (Builtin.SmallTypes.nextOf (.ref i1) >>= _) _ _ _
  have g1 : St1 k h₁ := D1.frame k _ _ h1 fun c hc o e => hk₁ _ _ (fun q => D.z1 (q ▸ hc)) e
  rcases hend with rfl | ⟨k1, rfl⟩
  · refine wpAny_bind (D1.done _ _ _ g1 fun h₂ e hs₂ he => ?_)
    exact hE h₂ e s.toks (fun c o c1 _ c3 _ x => hs₂ _ _ c3 (hk₁ _ _ c1 x)) he
  · refine wpAny_bind (D1.item k _ _ _ k1 g1 fun x h₂ tk hx h1₂ hs₂ => wpAny_pure ?_)
    replace hs₂ : Heap.SameBut i1 h₁ h₂ := hs₂
    refine wpAny_pure ?_
    refine wpAny_bind (wpAny_bind (wpAny_holding ?_))
    show wpAny _ _ (Builtin.SmallTypes.nextOf (.ref i2) >>= _) _ _ _
    refine wpAny_bind (D2.done _ _ _ (D2.frame k _ _ h2 fun c hc o e => hs₂.extBut _ _ (fun q => D.i1f (q ▸ hc)) (hk₁ _ _ (fun q => D.z2 (q ▸ hc)) e)) fun h₄ e hs₄ he => ?_)
    exact hE h₄ e tk (fun c o c1 _ c3 c4 x => hs₄ _ _ c4 (hs₂.extBut _ _ c3 (hk₁ _ _ c1 x))) he
theorem zaQ {k : Nat} {Q : Option Value → Shared → Prop} (D : ZlApart z TI TO i1 i2 fp1 fp2) (D1 : Draws prog w A.in1 i1 fp1 n1 P1 St1) (D2 : Draws prog w A.in1 i2 fp2 n2 P2 St2) (hS : ZlS z TI TO i1 i2 St1 St2 k s.heap) (k1 : k < n1) (k2 : k < n2)
    (hQ : ∀ x y h' tk, P1 k x → P2 k y → IsPair h' s.heap.objs.size x y → ZlS z TI TO i1 i2 St1 St2 (k + 1) h' → (∀ c o, c ≠ z → c ≠ TO → c ≠ i1 → c ≠ i2 → s.heap.get? c = some o → h'.get? c = some o) → Q (some (.ref s.heap.objs.size)) { s with heap := h', toks := tk }) :
    wpAny (model prog w) A (pyNext (.ref z)) Q E s := by
  obtain ⟨f0, f1, a, b, hz, hf, hTI, hTO, h1, h2⟩ := hS
  have hT : s.TypeIs (.ref z) "zip" := ⟨_, hz, rfl⟩
  unfold pyNext
  refine wpAny_bind (wpAny_attempt (wpAny_callSpecial?_slot (name := Str.ofString "__next__") hT F.slot_zip_next (wpAny_call_entry F.slot_zip_next hT F.entry_zip_next ?_ (F.args_zip_next_1 _))))
  rcases hf with ⟨rfl, rfl⟩ | ⟨t, o0, rfl, ht, tz, tO, t1, t2⟩
  · exact Yb D D1 D2 hz hTI hTO h1 h2 k1 k2 fun x y h' tk a1 a2 a3 a4 a5 => wpAny_pure (hQ x y h' tk a1 a2 a3 a4 a5)
  · exact YU D D1 D2 hz ht tz tO t1 t2 hTI hTO h1 h2 k1 k2 fun x y h' tk a1 a2 a3 a4 a5 => wpAny_pure (hQ x y h' tk a1 a2 a3 a4 a5)
theorem zcB {k : Nat} {Q : Option Value → Shared → Prop} (D : ZlApart z TI TO i1 i2 fp1 fp2) (D1 : Draws prog w A.in1 i1 fp1 n1 P1 St1) (D2 : Draws prog w A.in1 i2 fp2 n2 P2 St2) (hS : ZlS z TI TO i1 i2 St1 St2 k s.heap) (hend : k = n1 ∨ (k < n1 ∧ k = n2))
    (hQ : ∀ h' tk, (∀ c o, c ≠ z → c ≠ TO → c ≠ i1 → c ≠ i2 → s.heap.get? c = some o → h'.get? c = some o) → Q none { s with heap := h', toks := tk }) :
    wpAny (model prog w) A (pyNext (.ref z)) Q E s := by
  obtain ⟨f0, f1, a, b, hz, hf, hTI, hTO, h1, h2⟩ := hS
  have hT : s.TypeIs (.ref z) "zip" := ⟨_, hz, rfl⟩
  have fin : ∀ h' e tk, (∀ c o, c ≠ z → c ≠ TO → c ≠ i1 → c ≠ i2 → s.heap.get? c = some o → h'.get? c = some o) → (∃ o, h'.get? e = some o ∧ o.cls = .type "StopIteration") → wpAny (model prog w) A (do
      if (← isInstance (.ref e) (.type "StopIteration")) = true then pure none else throw (.ref e)) Q E { s with heap := h', toks := tk } := by
    intro h' e tk hk ⟨o, ho, hc⟩
    refine wpAny_bind (wpAny_isInstance (T := "StopIteration") (b := true) ⟨o, ho, hc⟩ isSubtype_stop ?_)
    exact wpAny_pure (hQ _ _ hk)
  unfold pyNext
  refine wpAny_bind (wpAny_attempt (wpAny_callSpecial?_slot (name := Str.ofString "__next__") hT F.slot_zip_next (wpAny_call_entry F.slot_zip_next hT F.entry_zip_next ?_ (F.args_zip_next_1 _))))
  rcases hf with ⟨rfl, rfl⟩ | ⟨t, o0, rfl, ht, tz, tO, t1, t2⟩
  · exact YV D D1 D2 hz hTI hTO h1 h2 hend fin
  · exact Vw D D1 D2 hz ht hTI h1 h2 hend fin
noncomputable def JI (P1 P2 : Nat → Value → Prop) (h : Heap) (far : List Addr) (lo j : Nat) (v : Value) : Prop := ∃ T x y, v = .ref T ∧ P1 j x ∧ P2 j y ∧ IsPair h T x y ∧ T ∉ far ∧ lo ≤ T
theorem zaR (D : ZlApart z TI TO i1 i2 fp1 fp2) (D1 : Draws prog w A.in1.in1 i1 fp1 n1 P1 St1) (D2 : Draws prog w A.in1.in1 i2 fp2 n2 P2 St2) {n lo : Nat} (hn : n = min n1 n2) (hn' : n ≤ 1000) (S : Addr) (hSf : S ∉ [z, TI, TO, i1, i2] ++ fp1 ++ fp2) (res : Value) {R : Result → Shared → Prop} :
    ∀ (m k : Nat) (s : Shared) (acc : Array Value) (c : Nat), n - k = m → k ≤ n → ZlS z TI TO i1 i2 St1 St2 k s.heap → s.heap.get? S = some { cls := .type "list", dict := none, data := .seq acc c, slots := #[] } → acc.size = k → lo ≤ s.heap.objs.size →
    (∀ j v, acc[j]? = some v → JI P1 P2 s.heap [S, z, TO, i1, i2] lo j v) → (∀ (j : Nat) (v : Value) (T : Addr), acc[j]? = some v → v = Value.ref T → T < s.heap.objs.size) → (∀ (i j : Nat) v, acc[i]? = some v → acc[j]? = some v → i = j) →
    (∀ h' tk acc' c', (∀ b o, b ∉ [S, z, TO, i1, i2] → s.heap.get? b = some o → h'.get? b = some o) → h'.get? S = some { cls := .type "list", dict := none, data := .seq acc' c', slots := #[] } → acc'.size = n → (∀ j v, acc'[j]? = some v → JI P1 P2 h' [S, z, TO, i1, i2] lo j v) →
      (∀ (i j : Nat) v, acc'[i]? = some v → acc'[j]? = some v → i = j) → R (.ok (.ret res)) { s with heap := h', toks := tk }) →
    codeAny (model prog w) A (.builtin "list.extend.loop" ⟨[.ref S, .ref z, res], []⟩) R s := by
  have Sz : S ≠ z := fun e => hSf (by simp [e])
  have STO : S ≠ TO := fun e => hSf (by simp [e])
  have Si1 : S ≠ i1 := fun e => hSf (by simp [e])
  have Si2 : S ≠ i2 := fun e => hSf (by simp [e])
  intro m
  induction m with
  | zero =>
    intro k s acc c hk hi hst hS hsz hlo hacc hlt hinj hR
    have hend : k = n1 ∨ (k < n1 ∧ k = n2) := by omega
    refine codeAny_builtin F.entry_extend_loop ?_
    rw [Around.under_plainId F.plain_extend_loop _]
    show wpAny _ A.in1 (pyNext (.ref z) >>= _) _ _ s
    refine wpAny_bind (zcB D D1 D2 hst hend fun h' tk hk' => ?_)
    have kk : ∀ b o, b ∉ [S, z, TO, i1, i2] → s.heap.get? b = some o → h'.get? b = some o := fun b o hb e => hk' b o (fun q => hb (by simp [q])) (fun q => hb (by simp [q])) (fun q => hb (by simp [q])) (fun q => hb (by simp [q])) e
    refine wpAny_pure (hR h' tk acc c kk (hk' _ _ Sz STO Si1 Si2 hS) (by omega) (fun j v hj => ?_) hinj)
    obtain ⟨T, x, y, e, p1, p2, hp, hf, hl⟩ := hacc j v hj
    exact ⟨T, x, y, e, p1, p2, kk _ _ hf hp, hf, hl⟩
  | succ m ih =>
    intro k s acc c hk hi hst hS hsz hlo hacc hlt hinj hR
    refine codeAny_builtin F.entry_extend_loop ?_
    rw [Around.under_plainId F.plain_extend_loop _]
    show wpAny _ A.in1 (pyNext (.ref z) >>= _) _ _ s
    refine wpAny_bind (zaQ D D1 D2 hst (by omega) (by omega) fun x y h' tk p1 p2 hp hst' hk' => ?_)
    have hS' := hk' _ _ Sz STO Si1 Si2 hS
    have kk : ∀ b o, b ∉ [S, z, TO, i1, i2] → s.heap.get? b = some o → h'.get? b = some o := fun b o hb e => hk' b o (fun q => hb (by simp [q])) (fun q => hb (by simp [q])) (fun q => hb (by simp [q])) (fun q => hb (by simp [q])) e
    obtain ⟨f0, f1, a, b, hz, hf, hTI, hTO, h1, h2⟩ := id hst
    have zlt : z < s.heap.objs.size := Heap.lt_size hz
    have Olt : TO < s.heap.objs.size := Heap.lt_size hTO
    have Slt : S < s.heap.objs.size := Heap.lt_size hS
    have ilt : i1 < s.heap.objs.size := by obtain ⟨_, e⟩ := D1.live _ _ h1; exact Heap.lt_size e
    have jlt : i2 < s.heap.objs.size := by obtain ⟨_, e⟩ := D2.live _ _ h2; exact Heap.lt_size e
    have nf : s.heap.objs.size ∉ [S, z, TO, i1, i2] := by
      simp only [List.mem_cons, List.not_mem_nil, or_false, not_or]
      exact ⟨Nat.ne_of_gt Slt, Nat.ne_of_gt zlt, Nat.ne_of_gt Olt, Nat.ne_of_gt ilt, Nat.ne_of_gt jlt⟩
    have plt : s.heap.objs.size < h'.objs.size := Heap.lt_size hp
    show wpAny _ A.in1 (updateSeq S (·.push (.ref s.heap.objs.size)) >>= _) _ _ _
    refine wpAny_bind ?_
    refine wpAny_updateSeq hS' rfl (wpAny_pure ⟨plainId_quiet F.plain_extend_loop _, ih (k + 1) _ (acc.push (.ref s.heap.objs.size)) _ (by omega) (by omega) ?_ (Heap.get?_update_self _ hS' rfl) (by rw [Array.size_push, hsz]) ?_ (fun j v hj => ?_) (fun j v T hj e => ?_) (fun i j v hi' hj => ?_) fun h'' tk' acc' c' hk2 hS2 hz2 hacc2 hinj2 => ?_⟩)
      (by rw [hsz, sizeLine]; omega) (by show (acc.push _).size ≤ sizeLine + 1; rw [Array.size_push, hsz, sizeLine]; omega)
    · have oth : ∀ b o, b ≠ S → h'.get? b = some o → (h'.update S (Obj.mapSeq (·.push (.ref s.heap.objs.size)))).get? b = some o := fun b o hb e => (Heap.get?_update_other _ _ (Ne.symm hb)).trans e
      obtain ⟨f0, f1, a, b, gz, gf, gTI, gTO, g1, g2⟩ := hst'
      refine ⟨f0, f1, a, b, oth _ _ (Ne.symm Sz) gz, ?_, oth _ _ (fun q => hSf (by simp [← q])) gTI, oth _ _ (Ne.symm STO) gTO, D1.frame _ _ _ g1 fun c hc o e => oth _ _ (fun q => hSf (by simp [← q, hc])) e, D2.frame _ _ _ g2 fun c hc o e => oth _ _ (fun q => hSf (by simp [← q, hc])) e⟩
      rcases gf with g | ⟨t, o, e1, e2, e3⟩
      · exact .inl g
      · refine .inr ⟨t, ?_⟩
        by_cases ht : t = S
        · subst ht
          exact ⟨_, e1, Heap.get?_update_self _ hS' rfl, e3⟩
        · exact ⟨o, e1, oth _ _ ht e2, e3⟩
    · show lo ≤ (h'.update S _).objs.size
      rw [Heap.size_update]
      omega
    · rw [Array.getElem?_push] at hj
      split at hj
      · rename_i e
        cases hj
        rw [e, hsz]
        exact ⟨_, x, y, rfl, p1, p2, (Heap.get?_update_other _ _ (fun q => nf (by simp [← q]))).trans hp, nf, hlo⟩
      · obtain ⟨T, x', y', e, q1, q2, hp', hf', hl⟩ := hacc j v hj
        exact ⟨T, x', y', e, q1, q2, (Heap.get?_update_other _ _ (fun q => hf' (by simp [← q]))).trans (kk _ _ hf' hp'), hf', hl⟩
    · show T < (h'.update S _).objs.size
      rw [Heap.size_update]
      rw [Array.getElem?_push] at hj
      split at hj
      · cases hj
        cases e
        exact plt
      · exact Nat.lt_trans (hlt j v T hj e) plt
    · rw [Array.getElem?_push] at hi' hj
      split at hi' <;> split at hj
      · omega
      · rename_i e1 e2
        cases hi'
        have := hlt j _ _ hj rfl
        exact absurd this (Nat.lt_irrefl _)
      · rename_i e1 e2
        cases hj
        have := hlt i _ _ hi' rfl
        exact absurd this (Nat.lt_irrefl _)
      · exact hinj i j v hi' hj
    · exact hR h'' tk' acc' c' (fun b o hb e => hk2 b o hb ((Heap.get?_update_other _ _ (fun q => hb (by simp [← q]))).trans (kk b o hb e))) hS2 hz2 hacc2 hinj2
theorem Vx : typeLookup (.type "zip") "__len__" = pure none := by rw [typeLookup_type, builtinLookup_eq_fast]; kernel_rfl
theorem YW : typeLookup (.type "zip") "__length_hint__" = pure none := by rw [typeLookup_type, builtinLookup_eq_fast]; kernel_rfl
theorem Qg (D : ZlApart z TI TO i1 i2 fp1 fp2) (D1 : Draws prog w A.in1.in1 i1 fp1 n1 P1 St1) (D2 : Draws prog w A.in1.in1 i2 fp2 n2 P2 St2) {n lo : Nat} (hn : n = min n1 n2) (hn' : n ≤ 1000) (S : Addr) (hSf : S ∉ [z, TI, TO, i1, i2] ++ fp1 ++ fp2) (res : Value) (c₀ : Nat) {R : Result → Shared → Prop}
    (hz0 : ∃ f0, ya s.heap z TI TO f0 false) (hst : ZlS z TI TO i1 i2 St1 St2 0 s.heap) (hlo : lo ≤ s.heap.objs.size) (hS : s.heap.get? S = some { cls := .type "list", data := .seq #[] c₀ })
    (hR : ∀ h' tk acc' c', (∀ b o, b ∉ [S, z, TO, i1, i2] → s.heap.get? b = some o → h'.get? b = some o) → h'.get? S = some { cls := .type "list", dict := none, data := .seq acc' c', slots := #[] } → acc'.size = n → (∀ j v, acc'[j]? = some v → JI P1 P2 h' [S, z, TO, i1, i2] lo j v) →
      (∀ (i j : Nat) v, acc'[i]? = some v → acc'[j]? = some v → i = j) → R (.ok (.ret res)) { s with heap := h', toks := tk }) :
    wpAny (model prog w) A.in1 (Builtin.List.listExtendWith (.ref S) (.ref z) res)
      (fun fin s' => match fin with | .done f => R (.ok f) s' | .again c' => c'.quiet = true ∧ codeAny (model prog w) A c' R s') (fun e s' => R (.error e) s') s := by
  obtain ⟨f0, hz⟩ := hz0
  have hT : s.TypeIs (.ref z) "zip" := ⟨_, hz, rfl⟩
  have Sz : S ≠ z := fun e => hSf (by simp [e])
  unfold Builtin.List.listExtendWith
  refine wpAny_bind (wpAny_typeOf hT ?_)
  have h1 : Builtin.List.listSameRef (.ref S) (.ref z) = false := by simp [Builtin.List.listSameRef, Sz]
  have h2 : (Value.type "zip" == Value.type "list") = false := by decide
  have h3 : (Value.type "zip" == Value.type "tuple") = false := by decide
  simp only [h1, h2, h3, Bool.or_false, Bool.false_eq_true, if_false]
  refine wpAny_bind (wpAny_pyIter_zip hz ?_)
  refine wpAny_bind (wpAny_holding ?_)
  unfold Builtin.List.listLengthHint
  refine wpAny_bind (wpAny_specialOf hT Vx ?_)
  show wpAny _ A.in1 (specialOf (Value.ref z) (Str.ofString "__length_hint__") >>= _) _ _ _
  refine wpAny_bind (wpAny_specialOf hT YW ?_)
  refine wpAny_pure ?_
  show wpAny _ A.in1 (rule "list.extend.makes-room" >>= fun _ => Builtin.List.listTouch (.ref S) >>= fun _ =>
    again (.builtin "list.extend.loop" ⟨[.ref S, .ref z, res], []⟩)) _ _ _
  refine wpAny_bind (wpAny_rule ?_)
  refine wpAny_bind ?_
  show wpAny _ A.in1 (updateSeq S (·.push .none) >>= fun _ => updateSeq S (·.pop)) _ _ _
  refine wpAny_bind (wpAny_updateSeq hS rfl ?_)
  have hS₂ := Heap.get?_update_self (Obj.mapSeq (·.push Value.none)) hS rfl
  refine wpAny_updateSeq (hz := by seq_fits) hS₂ rfl ?_
  have hS₃ := Heap.get?_update_self (Obj.mapSeq (·.pop)) hS₂ rfl
  have oth : ∀ b o, b ≠ S → s.heap.get? b = some o → ((s.heap.update S (Obj.mapSeq (·.push Value.none))).update S (Obj.mapSeq (·.pop))).get? b = some o := fun b o hb e => (Heap.get?_update_other _ _ (Ne.symm hb)).trans ((Heap.get?_update_other _ _ (Ne.symm hb)).trans e)
  refine wpAny_pure ⟨plainId_quiet F.plain_extend_loop _, zaR D D1 D2 hn hn' S hSf res (lo := lo) n 0 _ #[] _ (by omega) (by omega) ?_ hS₃ rfl ?_ (fun j v hj => by simp at hj) (fun j v T hj => by simp at hj) (fun i j v hi => by simp at hi) fun h' tk acc' c' hk hS' hz' hacc hinj => hR h' tk acc' c' (fun b o hb e => hk b o hb (oth b o (fun q => hb (by simp [q])) e)) hS' hz' hacc hinj⟩
  · obtain ⟨f0, f1, a, b, gz, gf, gTI, gTO, g1, g2⟩ := hst
    refine ⟨f0, f1, a, b, oth _ _ (Ne.symm Sz) gz, ?_, oth _ _ (fun q => hSf (by simp [← q])) gTI, oth _ _ (fun q => hSf (by simp [← q])) gTO, D1.frame _ _ _ g1 fun c hc o e => oth _ _ (fun q => hSf (by simp [← q, hc])) e, D2.frame _ _ _ g2 fun c hc o e => oth _ _ (fun q => hSf (by simp [← q, hc])) e⟩
    rcases gf with g | ⟨t, o, e1, e2, e3⟩
    · exact .inl g
    · refine .inr ⟨t, ?_⟩
      by_cases ht : t = S
      · subst ht
        exact ⟨_, e1, hS₃, e3⟩
      · exact ⟨o, e1, oth _ _ ht e2, e3⟩
  · show lo ≤ ((s.heap.update S _).update S _).objs.size
    rw [Heap.size_update, Heap.size_update]
    exact hlo
theorem zaS (D : ZlApart z TI TO i1 i2 fp1 fp2) (D1 : Draws prog w A.in1.in1.in1 i1 fp1 n1 P1 St1) (D2 : Draws prog w A.in1.in1.in1 i2 fp2 n2 P2 St2) {n : Nat} (hn : n = min n1 n2) (hn' : n ≤ 1000) (hlt : ∀ b ∈ [z, TI, TO, i1, i2] ++ fp1 ++ fp2, b < s.heap.objs.size) {Q : Value → Shared → Prop}
    (hz0 : ∃ f0, ya s.heap z TI TO f0 false) (hst : ZlS z TI TO i1 i2 St1 St2 0 s.heap)
    (hQ : ∀ h' tk acc' c', (∀ b o, b ∉ [z, TO, i1, i2] → s.heap.get? b = some o → h'.get? b = some o) → h'.get? s.heap.objs.size = some { cls := .type "list", dict := none, data := .seq acc' c', slots := #[] } → acc'.size = n →
      (∀ (j : Nat) (v : Value), acc'[j]? = some v → ∃ T x y, v = Value.ref T ∧ P1 j x ∧ P2 j y ∧ IsPair h' T x y ∧ s.heap.objs.size < T) → (∀ (i j : Nat) v, acc'[i]? = some v → acc'[j]? = some v → i = j) → Q (.ref s.heap.objs.size) { s with heap := h', toks := tk }) :
    wpAny (model prog w) A (call (.type "list") [.ref z]) Q E s := by
  refine callType_codes (Q₁ := fun obj s₁ => obj = .ref s.heap.objs.size ∧ s₁ = { s with heap := s.heap.push { cls := .type "list", data := .seq #[] } }) F.called_list (F.typeCall_list_1 _) F.entry_list_init
    (code_list_new _ ⟨rfl, rfl⟩) fun obj s₁ h₁ => ?_
  obtain ⟨rfl, rfl⟩ := h₁
  have hS : (s.heap.push { cls := .type "list", data := .seq #[] }).get? s.heap.objs.size = some { cls := .type "list", data := .seq #[] } := Heap.get?_push_size _ rfl
  have hSf : s.heap.objs.size ∉ [z, TI, TO, i1, i2] ++ fp1 ++ fp2 := fun m => Nat.lt_irrefl _ (hlt _ m)
  refine ⟨⟨_, hS, rfl⟩, F.args_list_init_2 _ _, ?_⟩
  show wpAny _ _ (do let old ← Builtin.List.listItems (.ref s.heap.objs.size); Builtin.List.listUpdate (.ref s.heap.objs.size) (fun _ => #[]); letGo old.toList.reverse; Builtin.List.listExtendWith (.ref s.heap.objs.size) (.ref z) .none) _ _ _
  refine wpAny_bind ?_
  unfold Builtin.List.listItems
  refine wpAny_bind (wpAny_seqItems hS rfl (wpAny_pure ?_))
  show wpAny _ _ (updateSeq s.heap.objs.size (fun _ => #[]) >>= fun _ => letGo (#[] : Array Value).toList.reverse >>= fun _ => Builtin.List.listExtendWith (.ref s.heap.objs.size) (.ref z) .none) _ _ _
  refine wpAny_bind (wpAny_updateSeq hS rfl ?_)
  have hS₂ := Heap.get?_update_self (Obj.mapSeq (fun _ => (#[] : Array Value))) hS rfl
  have oth : ∀ b o, b ≠ s.heap.objs.size → s.heap.get? b = some o → ((s.heap.push { cls := .type "list", data := .seq #[] }).update s.heap.objs.size (Obj.mapSeq (fun _ => (#[] : Array Value)))).get? b = some o :=
    fun b o hb e => (Heap.get?_update_other _ _ (Ne.symm hb)).trans (Heap.get?_push_of_some _ e)
  have ne : ∀ b ∈ [z, TI, TO, i1, i2] ++ fp1 ++ fp2, b ≠ s.heap.objs.size := fun b m => Nat.ne_of_lt (hlt b m)
  refine wpAny_bind (wpAny_letGo ?_)
  refine Qg (A := A.in1) D D1 D2 hn hn' s.heap.objs.size hSf .none _ (lo := s.heap.objs.size + 1) ?_ ?_ ?_ hS₂ fun h' tk acc' c' hk hS' hz' hacc hinj => ?_
  · obtain ⟨f0, hz⟩ := hz0
    exact ⟨f0, oth _ _ (ne _ (by simp)) hz⟩
  · obtain ⟨f0, f1, a, b, gz, gf, gTI, gTO, g1, g2⟩ := hst
    refine ⟨f0, f1, a, b, oth _ _ (ne _ (by simp)) gz, ?_, oth _ _ (ne _ (by simp)) gTI, oth _ _ (ne _ (by simp)) gTO, D1.frame _ _ _ g1 fun c hc o e => oth _ _ (ne _ (by simp [hc])) e, D2.frame _ _ _ g2 fun c hc o e => oth _ _ (ne _ (by simp [hc])) e⟩
    rcases gf with g | ⟨t, o, e1, e2, e3⟩
    · exact .inl g
    · exact .inr ⟨t, o, e1, oth _ _ (Nat.ne_of_lt (Heap.lt_size e2)) e2, e3⟩
  · show s.heap.objs.size + 1 ≤ ((s.heap.push _).update _ _).objs.size
    rw [Heap.size_update, Heap.size_push]
    exact Nat.le_refl _
  · refine ⟨rfl, hQ h' tk acc' c' (fun b o hb e => hk b o (fun m => ?_) (oth b o (Nat.ne_of_lt (Heap.lt_size e)) e)) hS' hz' (fun j v hj => ?_) hinj⟩
    · rcases List.mem_cons.1 m with q | q
      · exact Nat.ne_of_lt (Heap.lt_size e) q
      · exact hb q
    · obtain ⟨T, x, y, e, p1, p2, hp, _, hl⟩ := hacc j v hj
      exact ⟨T, x, y, e, p1, p2, hp, hl⟩
end
noncomputable abbrev Vy (h : Heap) (x : Str) (t : Tok) : Heap := h.push { cls := .type "str_ascii_iterator", data := .fields #[.str x t, .int 0 0] }
noncomputable abbrev Vz (h : Heap) (x : Str) (t : Tok) (l2 : Addr) : Heap := (Vy h x t).push { cls := .type "list_iterator", data := .fields #[.ref l2, .int 0 0] }
noncomputable abbrev VA (h : Heap) (x : Str) (t : Tok) (l2 : Addr) : Heap := (Vz h x t l2).push { cls := .type "tuple", data := .seq #[.ref h.objs.size, .ref (Vy h x t).objs.size] }
noncomputable abbrev VB (h : Heap) (x : Str) (t : Tok) (l2 : Addr) : Heap := (VA h x t l2).push { cls := .type "tuple", data := .seq #[.none, .none] }
noncomputable abbrev vG (h : Heap) (x : Str) (t : Tok) (l2 : Addr) : Heap := (VB h x t l2).push { cls := .type "zip", data := .fields #[.none, .bool false, .bool false, .ref (Vz h x t l2).objs.size, .ref (VA h x t l2).objs.size] }
theorem ki (x : Str) (t : Tok) (l2 : Addr) (ys : Array Value) (ha : x.cps.all (· < 128) = true) :
    Meets (Builtin.«zip.__new__» ⟨[.type "zip", .str x t, .ref l2], []⟩) (fun _ R s => s.heap.IsList l2 ys ∧
      R (.ok (.ret (.ref (VB s.heap x t l2).objs.size))) { s with heap := vG s.heap x t l2 }) :=
  .of_wp fun prog w A R s h => by
    obtain ⟨hp, g, d, tk, os⟩ := s; obtain ⟨hl2, h⟩ := h
    have hsub := sub_zip
    have hL2 : Heap.IsList (Shared.heap ⟨hp.push { cls := .type "str_ascii_iterator", data := .fields #[.str x t, .int 0 0] }, g, d, tk, os⟩) l2 ys := Heap.IsList.push hl2 _
    wp_walk using wpAny_pyIter_ascii ha, wpAny_pyIter_list hL2
    exact ⟨_, rfl, h⟩
section
variable {prog : Program} {w : World} {A : Around} {E : Value → Shared → Prop} {s : Shared}
theorem zaT {x : Str} {t : Tok} {l : Addr} {ys : Array Value} {Q : Value → Shared → Prop} (hh : A.handled = none) (ha : x.cps.all (· < 128) = true) (hl : s.heap.IsList l ys) {n : Nat} (hn : n = min x.cps.size ys.size) (hn' : n ≤ 1000)
    (hQ : ∀ h' tk S acc' c', s.heap.objs.size ≤ S → (∀ b o, s.heap.get? b = some o → h'.get? b = some o) → h'.get? S = some { cls := .type "list", dict := none, data := .seq acc' c', slots := #[] } → acc'.size = n →
      (∀ (j : Nat) (v : Value), acc'[j]? = some v → ∃ T c u y, v = Value.ref T ∧ x.cps[j]? = some c ∧ ys[j]? = some y ∧ IsPair h' T (.str ⟨#[c]⟩ u) y ∧ S < T) → (∀ (i j : Nat) v, acc'[i]? = some v → acc'[j]? = some v → i = j) → Q (.ref S) { s with heap := h', toks := tk }) :
    wpAny (model prog w) A (call (.type "zip") [.str x t, .ref l]) (fun v s₁ => wpAny (model prog w) A (call (.type "list") [v]) Q E s₁) E s := by
  refine callType_new F.called_zip (by decide) (F.typeCall_zip_2 _ _) (F.newCall_zip_2 _ _) (fun obj => F.args_object_init_3 obj _ _) F.entry_zip_new
    (ki x t l ys ha) ⟨hl, ?_⟩
  have z1 : (Vy s.heap x t).objs.size = s.heap.objs.size + 1 := Heap.size_push ..
  have z2 : (Vz s.heap x t l).objs.size = s.heap.objs.size + 2 := by rw [Heap.size_push, z1]
  have z3 : (VA s.heap x t l).objs.size = s.heap.objs.size + 3 := by rw [Heap.size_push, z2]
  have z4 : (VB s.heap x t l).objs.size = s.heap.objs.size + 4 := by rw [Heap.size_push, z3]
  have z5 : (vG s.heap x t l).objs.size = s.heap.objs.size + 5 := by rw [Heap.size_push, z4]
  have g5 : (vG s.heap x t l).get? (VB s.heap x t l).objs.size = some _ := Heap.get?_push_size _ rfl
  have g4 : (vG s.heap x t l).get? (VA s.heap x t l).objs.size = some _ := Heap.get?_push_of_some _ (Heap.get?_push_size _ rfl)
  have g3 : (vG s.heap x t l).get? (Vz s.heap x t l).objs.size = some _ := Heap.get?_push_of_some _ (Heap.get?_push_of_some _ (Heap.get?_push_size _ rfl))
  have g2 : (vG s.heap x t l).get? (Vy s.heap x t).objs.size = some _ := Heap.get?_push_of_some _ (Heap.get?_push_of_some _ (Heap.get?_push_of_some _ (Heap.get?_push_size _ rfl)))
  have g1 : (vG s.heap x t l).get? s.heap.objs.size = some _ := Heap.get?_push_of_some _ (Heap.get?_push_of_some _ (Heap.get?_push_of_some _ (Heap.get?_push_of_some _ (Heap.get?_push_size _ rfl))))
  have kp : ∀ c o, s.heap.get? c = some o → (vG s.heap x t l).get? c = some o := fun c o e => Heap.get?_push_of_some _ (Heap.get?_push_of_some _ (Heap.get?_push_of_some _ (Heap.get?_push_of_some _ (Heap.get?_push_of_some _ e))))
  show _ ∧ _
  rw [z2, z3, z4] at g5
  rw [z1, z2] at g3
  rw [z3] at g4
  rw [z1] at g2
  rw [z4]
  refine ⟨⟨_, g5, rfl⟩, ?_⟩
  have llt : l < s.heap.objs.size := by obtain ⟨_, e, _⟩ := hl; exact Heap.lt_size e
  refine zaS (z := s.heap.objs.size + 4) (TI := s.heap.objs.size + 2) (TO := s.heap.objs.size + 3) (i1 := s.heap.objs.size) (i2 := s.heap.objs.size + 1) (s := { s with heap := vG s.heap x t l }) ?_
    (Draws.strAscii (A := A.in1.in1.in1) hh s.heap.objs.size x t) (Draws.list (A := A.in1.in1.in1) hh (s.heap.objs.size + 1) l (Nat.ne_of_lt (Nat.lt_trans llt (Nat.lt_succ_self _))) ys) hn hn' ?_ ⟨_, g5⟩ ⟨_, _, _, _, g5, .inl ⟨rfl, rfl⟩, g3, g4, ⟨_, g1, rfl, rfl⟩, ⟨_, g2, rfl, rfl⟩, hl.at fun o e => kp l o e⟩ ?_
  · have n1 : (s.heap.objs.size + 1 : Nat) ≠ s.heap.objs.size := by omega
    have h0 : l ≠ (s.heap.objs.size : Nat) := Nat.ne_of_lt llt
    have h1 : l ≠ (s.heap.objs.size + 1 : Nat) := Nat.ne_of_lt (Nat.lt_of_lt_of_le llt (by omega))
    have h3 : l ≠ (s.heap.objs.size + 3 : Nat) := Nat.ne_of_lt (Nat.lt_of_lt_of_le llt (by omega))
    have h4 : l ≠ (s.heap.objs.size + 4 : Nat) := Nat.ne_of_lt (Nat.lt_of_lt_of_le llt (by omega))
    exact ⟨by simp, by simp, by simp, by simp, by simp, by simp, by simp, by simp, by simp, by simp, by simp, by simp [Ne.symm h4], by simp, by simp [Ne.symm h3], by simp [Ne.symm h0], by simp⟩
  · intro b hb
    show b < (vG s.heap x t l).objs.size
    rw [z5]
    simp only [List.mem_append, List.mem_cons, List.not_mem_nil, or_false] at hb
    rcases hb with ((q | q | q | q | q) | q) | q | q <;> rw [q]
    · exact Nat.lt_succ_self _
    · exact Nat.add_lt_add_left (by decide) _
    · exact Nat.add_lt_add_left (by decide) _
    · exact Nat.lt_add_of_pos_right (by decide)
    · exact Nat.add_lt_add_left (by decide) _
    · exact Nat.lt_add_of_pos_right (by decide)
    · exact Nat.add_lt_add_left (by decide) _
    · exact Nat.lt_add_right _ llt
  · intro h' tk acc' c' hk hS hz hacc hinj
    have e5 : (Shared.heap { s with heap := vG s.heap x t l }).objs.size = s.heap.objs.size + 5 := z5
    rw [e5] at hS ⊢
    refine hQ h' tk _ acc' c' (Nat.le_add_right _ _) (fun b o e => hk b o (fun m => ?_) (kp b o e)) hS hz (fun j v hj => ?_) hinj
    · have lt := Heap.lt_size e
      simp only [List.mem_cons, List.not_mem_nil, or_false] at m
      rcases m with q | q | q | q <;> rw [q] at lt
      · exact absurd lt (Nat.not_lt.2 (Nat.le_add_right _ _))
      · exact absurd lt (Nat.not_lt.2 (Nat.le_add_right _ _))
      · exact absurd lt (Nat.lt_irrefl _)
      · exact absurd lt (Nat.not_lt.2 (Nat.le_add_right _ _))
    · obtain ⟨T, a, y, e, ⟨c, u, e1, rfl⟩, p2, hp, hl'⟩ := hacc j v hj
      rw [e5] at hl'
      exact ⟨T, c, u, y, e, e1, p2, hp, hl'⟩
end
end PySem
namespace L2
open PySem PySem.Spec PyProof.Rows
section
variable {K : PySem.W.Frag}
noncomputable def xD (O : OM) : List W → Option (List PyData)
  | [] => some []
  | w :: ws => match xA O w, xD O ws with
    | some d, some ds => some (d :: ds)
    | _, _ => none
theorem uE {Γ : Gh} {O : OM} {H : Hp} (S : Sim K Γ O H) : ∀ {ws : List W} {vs : List V} {ds : List PyData}, relWs K Γ ws vs → xD O ws = some ds → relWs K ⟨H, fun _ => none, fun _ => none⟩ (ds.map W.d) vs
  | [], _, ds, r, e => by
    cases r
    cases e
    exact .nil
  | w :: ws, _, ds, r, e => by
    cases r with
    | cons rx t =>
      simp only [xD] at e
      split at e
      · rename_i d ds' e1 e2
        cases e
        exact .cons (vd S rx e1) (uE S t e2)
      · cases e
theorem Sim.all (H : Hp) : Sim K ⟨H, fun _ => none, fun _ => none⟩ (fun _ => none) H :=
  ⟨Same.refl _, fun _ _ e => (by cases e), fun _ _ e => (by cases e), fun _ _ e => (by cases e), fun _ _ e => (by cases e), fun _ _ e => (by cases e), fun _ _ e => (by cases e), fun _ _ _ _ _ _ _ e => (by cases e)⟩
theorem Qh {Γ Γ' : Gh} {x : PyData} {v : V} (h : scD x = true) (r : relW K Γ (.d x) v) : relW K Γ' (.d x) v := by
  cases x <;> first | exact r | cases h
noncomputable def KK (s : SpW) : SpW := fun ws O R => ∃ ds, xD O ws = some ds ∧ s (ds.map W.d) (fun _ => none) fun w _ => ∃ x, w = .d x ∧ scD x = true ∧ R (.d x) O
noncomputable def KL (s : SpX) : SpX := fun ws O R Y => ∃ ds, xD O ws = some ds ∧ s (ds.map W.d) (fun _ => none) (fun w _ => ∃ x, w = .d x ∧ scD x = true ∧ R (.d x) O) fun C _ => Y C O
theorem zaU {s : SpW} {vs : List V} {H : Hp} {Q : VK} {E : XK} (h : zb K (KK s) vs H Q E) : zb K s vs H Q E := by
  obtain ⟨Γ, O, ws, R, S, r, ⟨ds, e, hs⟩, kk⟩ := h
  refine ⟨_, _, _, _, Sim.all H, uE S r e, hs, ?_⟩
  rintro Γ' O' H' w v l S' rw ⟨x, rfl, sc, hR⟩
  exact kk Γ O H' (.d x) v (Le.refl _) (S.grow (l.z.trans S'.z)) (Qh sc rw) hR
theorem zcC {s : SpX} {vs : List V} {H : Hp} {Q : VK} {E : XK} (h : zS K (KL s) vs H Q E) : zS K s vs H Q E := by
  obtain ⟨Γ, O, ws, R, Y, S, r, ⟨ds, e, hs⟩, kk, m⟩ := h
  refine ⟨_, _, _, _, _, Sim.all H, uE S r e, hs, ?_, ?_⟩
  · rintro Γ' O' H' w v l S' rw ⟨x, rfl, sc, hR⟩
    exact kk Γ O H' (.d x) v (Le.refl _) (S.grow (l.z.trans S'.z)) (Qh sc rw) hR
  · intro Γ' O' H' C l S' y
    exact m Γ O H' C (Le.refl _) (S.grow (l.z.trans S'.z)) y
variable {P : Program} {w : World} {mg : Str → Option Value} {base : Heap}
theorem Cal.lend {k : Nat} {x : Str} {dvs : List V} {s : SpW} (c : Cal P w K mg base k x dvs (zb K s)) : Cal P w K mg base k x dvs (zb K (KK s)) := by
  obtain ⟨f, fd, ps, ds, F, r⟩ := c.ex
  exact ⟨f, fd, ps, ds, F.imp fun _ _ _ _ => zaU, r⟩
theorem CalX.lend {k : Nat} {x : Str} {dvs : List V} {s : SpX} (c : CalX P w K mg base k x dvs (zS K s)) : CalX P w K mg base k x dvs (zS K (KL s)) := by
  obtain ⟨f, fd, ps, ds, F, r⟩ := c.ex
  exact ⟨f, fd, ps, ds, F.imp fun _ _ _ _ => zcC, r⟩
end
theorem zaV {X : Cx} {body : List Stmt} {h0 : ExceptHandler} {hs : List ExceptHandler} {pos : Pos} {tb : TS} (hb : ∀ pins Z, PSs (X.tried pins Z) body tb) : PS X (.Try body (h0 :: hs) [] [] pos) tb := by
  intro pins s σ H B I h1
  refine wpAny_Try_except ?_
  refine wpAny_mono (hb pins _ [] s σ H B (I.tried _) h1) (fun f s1 q => ?_) fun _ _ z => z
  cases f with
  | next =>
    obtain ⟨σ', H', J, q⟩ := q
    exact wpAny_execs_nil ⟨σ', H', J.untried, q⟩
  | brk =>
    obtain ⟨σ', H', J, q⟩ := q
    exact ⟨σ', H', J.untried, q⟩
  | cont =>
    obtain ⟨σ', H', J, q⟩ := q
    exact ⟨σ', H', J.untried, q⟩
  | ret u =>
    obtain ⟨v, σ', H', J, r, q⟩ := q
    exact ⟨v, σ', H', J.untried, r, q⟩
section
variable {X : Cx} {K : PySem.W.Frag}
noncomputable def KM : V → List V → Hp → VK → Prop := fun x xs H Q => ∃ z y, x = .str z ∧ xs = [.str y] ∧ (y.length == 0) = false ∧ z.length ≤ 100000 ∧ ∀ p, H p = none → Q (.ref p) (upd H p (.tup [.str (Txt.partition z y).1, .str (Txt.partition z y).2.1, .str (Txt.partition z y).2.2]))
theorem Yc : MtR X "str.partition" KM := by
  intro pins s σ H x xs v us Q I rx r h
  obtain ⟨z, y, rfl, rfl, hy, hz, q⟩ := h
  obtain ⟨u, rfl, t, rfl⟩ := xt r
  obtain ⟨t', rfl⟩ := rx
  refine call_meets PySem.F.slot_str_partition (typeIs_str _ _ _) PySem.F.entry_str_partition (PySem.F.args_str_partition_2 _ _) (meets_str_partition z y t' t hy (by rw [sizeLine_eq]; omega)) ?_
  have fin : ∀ (a b c : Str) (ta tb tc k : Tok), Txt.partition z y = (a, b, c) → EP X pins σ Q (.ref s.heap.objs.size) { s with toks := k, heap := s.heap.push { cls := .type "tuple", data := .seq [.str a ta, .str b tb, .str c tc].toArray } } := fun a b c ta tb tc k e => by
    rw [e] at q
    exact ⟨.ref s.heap.objs.size, _, I.laid (t' := k) (o := .tup [.str a, .str b, .str c]) (fun b ob g => Heap.get?_push_of_some _ g) (Nat.le_refl _) ⟨by show (3 : Nat) ≤ sizeLine; rw [sizeLine_eq]; decide, [.str a ta, .str b tb, .str c tc], .cons ⟨ta, rfl⟩ (.cons ⟨tb, rfl⟩ (.cons ⟨tc, rfl⟩ .nil)), ⟨_, Heap.get?_push_size _ rfl, rfl, 0, rfl⟩⟩, rfl, q _ (I.hok.fresh (Nat.le_refl _))⟩
  unfold Txt.partition at fin
  split
  · rename_i i more e
    rw [e] at fin
    exact fin _ _ _ _ _ _ _ rfl
  · rename_i e
    rw [e] at fin
    exact fin _ _ _ _ _ _ _ rfl
noncomputable def Qi : W → List W → OM → WK → Prop := fun x xs O R => ∃ z y, x = .d (.str z) ∧ xs = [.d (.str y)] ∧ (y.length == 0) = false ∧ z.length ≤ 100000 ∧ R (.d (.tuple [.str (Txt.partition z y).1, .str (Txt.partition z y).2.1, .str (Txt.partition z y).2.2])) O
theorem YX {T : String} : RefM K T KM Qi := by
  rintro Γ O H x v xs vs S rx rs Q R ⟨z, y, rfl, rfl, h1, h2, h⟩ k
  cases rs with
  | cons rw t =>
    cases t
    refine ⟨z, y, rx, by rw [show _ = V.str y from rw], h1, h2, fun p hp => ?_⟩
    obtain ⟨Γ', le, S', r'⟩ := uk S (vR [(Txt.partition z y).1, (Txt.partition z y).2.1, (Txt.partition z y).2.2]) hp
    exact k _ _ _ _ _ le S' r' h
end
section
variable {X : Cx} {pins : List (Addr × Obj)} {σ : St} {H H' : Hp} {s : Shared} {h' : Heap}
theorem Inv.laids {t' : Nat} (I : Inv X pins σ H s) (k : ∀ b u, s.heap.get? b = some u → h'.get? b = some u) (old : ∀ b, b < s.heap.objs.size → H' b = H b) (new : ∀ b o, s.heap.objs.size ≤ b → H' b = some o → zR X.prog X.w H' h' b o) :
    Inv X pins σ H' { s with heap := h', toks := t' } := by
  have up : ∀ b o, H b = some o → H' b = some o := fun b o e => by rw [old b (I.hok.lt e)]; exact e
  refine I.un ⟨fun b o q _ _ _ => k b o q, fun b o q _ _ _ => ⟨o.slots, k b o q⟩, fun b o q n _ => by rw [old b (Heap.lt_size q)]; exact n, fun b o q _ => ⟨o, k b o q⟩, fun b xs q => up b _ q, fun b o u q => up b _ q, fun b ps q => ⟨#[], by rw [up b _ q]; simp⟩⟩ fun b o e => ?_
  by_cases hb : b < s.heap.objs.size
  · rw [old b hb] at e
    exact (I.hok b o e).stay (fun c v _ q => k c v q) (fun c q => up c _ q) fun c xs q => up c _ q
  · exact new b o (Nat.le_of_not_lt hb) e
end
theorem XI : ∀ l : List Value, (∀ v ∈ l, ∃ T, v = Value.ref T) → ∃ Ts : List Addr, l = Ts.map Value.ref
  | [], _ => ⟨[], rfl⟩
  | v :: l, h => by
    obtain ⟨T, rfl⟩ := h v List.mem_cons_self
    obtain ⟨Ts, rfl⟩ := XI l fun v m => h v (List.mem_cons_of_mem _ m)
    exact ⟨T :: Ts, rfl⟩
theorem zaW {xs : List V} {us : List Value} (h : Vals xs us) : ∀ {j : Nat} {u : Value}, us[j]? = some u → ∃ x, xs[j]? = some x ∧ RelV x u := by
  induction h with
  | nil => intro j u e; simp at e
  | cons a b ih =>
    intro j u e
    cases j with
    | zero => cases e; exact ⟨_, rfl, a⟩
    | succ j =>
      obtain ⟨x, e1, e2⟩ := ih (j := j) (u := u) (by simpa using e)
      exact ⟨x, by simpa using e1, e2⟩
noncomputable def v9 (H : Hp) : List Addr → List (List V) → Hp
  | T :: Ts, v :: vs => v9 (upd H T (.tup v)) Ts vs
  | _, _ => H
theorem vH {b : Addr} : ∀ {Ts : List Addr} {vs : List (List V)} {H : Hp}, b ∉ Ts → v9 H Ts vs b = H b
  | [], _, H, _ => by cases ‹List (List V)› <;> rfl
  | T :: Ts, [], H, _ => rfl
  | T :: Ts, v :: vs, H, h => by
    rw [v9, vH (fun m => h (List.mem_cons_of_mem _ m)), zd (fun e => h (by rw [e]; exact List.mem_cons_self))]
theorem Yd : ∀ {Ts : List Addr} {vs : List (List V)} {H : Hp} {i : Nat} {T : Addr} {v : List V}, Ts.Nodup → Ts[i]? = some T → vs[i]? = some v → v9 H Ts vs T = some (.tup v)
  | T :: Ts, v :: vs, H, 0, _, _, nd, e1, e2 => by
    cases e1
    cases e2
    rw [v9, vH (List.nodup_cons.1 nd).1, zg]
  | T :: Ts, v :: vs, H, i + 1, _, _, nd, e1, e2 => by
    rw [v9]
    exact Yd (List.nodup_cons.1 nd).2 (by simpa using e1) (by simpa using e2)
  | [], _, _, _, _, _, _, e, _ => by simp at e
  | _ :: _, [], _, _, _, _, _, _, e => by simp at e
noncomputable def uF (x : Str) (ys : List V) : List (List V) := List.zipWith (fun c y => [.str ⟨#[c]⟩, y]) x.cps.toList ys
noncomputable def tLZ (K : PySem.W.Frag) (ta : TA) : TE := fun σ H Q => ta σ H fun vs H1 => ∃ x a ys, vs = [.str x, .ref a] ∧ SqL K H1 a ys ∧ x.cps.all (· < 128) = true ∧ x.length ≤ 1000 ∧ ys.length ≤ 1000 ∧
  ∀ Ts l, Ts.Nodup → (∀ T ∈ Ts, H1 T = none) → Ts.length = (uF x ys).length → l ∉ Ts → H1 l = none → Q (.ref l) (upd (v9 H1 Ts (uF x ys)) l (.lst (Ts.map .ref)))
section
variable {X : Cx} {K : PySem.W.Frag}
theorem VC : bootBuiltins "list" = some (.type "list") := rfl
theorem VD {a b : Expr} {ta : TA} {p1 p2 q1 q2 : Pos} (hK : X.K = K) (hc : X.calm = true) (hl : Gl X "list") (ml : X.mg "list" = none) (hg : Gl X "zip") (hm : X.mg "zip" = none) (ha : PA X [a, b] ta)
    (hs : starEach [a, b] X.env = (false, eval a X.env) :: starEach [b] X.env := by rfl) (hs2 : (backTo q2 (starEach [b] X.env)).any (·.1) = false := by rfl)
    (he : starEach [.Call (.Name "zip" p2) [a, b] [] q2] X.env = (false, eval (.Call (.Name "zip" p2) [a, b] [] q2) X.env) :: starEach [] X.env := by rfl) (hpl : (backTo q1 (starEach [] X.env)).any (·.1) = false := by rfl)
    (ht : backTo q1 (starEach [.Call (.Name "zip" p2) [a, b] [] q2] X.env) = [(false, eval (.Call (.Name "zip" p2) [a, b] [] q2) X.env)] := by rfl) :
    PE X (.Call (.Name "list" p1) [.Call (.Name "zip" p2) [a, b] [] q2] [] q1) (tLZ K ta) := by
  subst hK
  intro pins s σ H Q I h
  refine wpAny_Call_Name_kw (x8 I hl ml VC ?_)
  refine PyProof.Rows.callWith_type1 (T := "list") ?_ he hpl
  rw [ht]
  refine Calls.spliced_cons ?_
  refine wpAny_Call_Name_kw (x8 I hg hm boot_zip ?_)
  refine PyProof.Rows.callWith_type1 (T := "zip") (thn (ha q2 pins s σ H _ I h) fun us s1 ⟨vs, H1, I1, r1, q1⟩ => ?_) hs hs2
  obtain ⟨x, a, ys, e, qa, hx, xl, yl, q⟩ := q1
  subst e
  cases r1 with
  | cons r rr =>
    cases rr with
    | cons r' rr =>
      cases rr
      obtain ⟨t, rfl⟩ := r
      cases r'
      obtain ⟨its, rv, p, _⟩ := I1.list qa
      have ln := rv.length
      refine wpAny_mono (zaT (I1.ok.hd hc) hx p.isList (n := min x.cps.size its.toArray.size) rfl (Nat.le_trans (Nat.min_le_left _ _) xl) fun h' tk S acc c' hS hk hl' hz hacc hinj => ?_) (fun v s2 z => Calls.spliced_nil z) fun _ _ z => z
      obtain ⟨Ts, hTs⟩ := XI acc.toList fun v hv => by
        obtain ⟨j, hj⟩ := List.mem_iff_getElem?.1 hv
        obtain ⟨T, _, _, _, e, _⟩ := hacc j v (by rw [← Array.getElem?_toList]; exact hj)
        exact ⟨T, e⟩
      have at_ : ∀ (j : Nat) (T : Addr), Ts[j]? = some T → acc[j]? = some (.ref T) := fun j T e => by
        rw [← Array.getElem?_toList, hTs, List.getElem?_map, e]
        rfl
      have big : ∀ T ∈ Ts, S < T := fun T m => by
        obtain ⟨j, hj⟩ := List.mem_iff_getElem?.1 m
        obtain ⟨T', _, _, _, e, _, _, _, hl⟩ := hacc j _ (at_ j T hj)
        cases e
        exact hl
      have nd : Ts.Nodup := by
        rw [List.Nodup, List.pairwise_iff_getElem]
        intro i j hi hj lt e
        have := hinj i j (.ref Ts[i]) (at_ i _ (List.getElem?_eq_getElem hi)) (at_ j _ (by rw [List.getElem?_eq_getElem hj, e]))
        omega
      have lt : Ts.length = (uF x ys).length := by
        have e1 : acc.toList.length = Ts.length := by rw [hTs, List.length_map]
        unfold uF
        rw [List.length_zipWith, ← e1, Array.length_toList, hz, ln, Array.length_toList]
        simp
      have nS : S ∉ Ts := fun m => Nat.lt_irrefl _ (big S m)
      have frT : ∀ T ∈ Ts, H1 T = none := fun T m => I1.hok.fresh (Nat.le_of_lt (Nat.lt_of_le_of_lt hS (big T m)))
      have vr : ∀ l : List Addr, Vals (l.map V.ref) (l.map Value.ref) := fun l => by
        induction l with
        | nil => exact .nil
        | cons a l ih => exact .cons rfl ih
      refine ⟨.ref S, _, I1.laids (H' := upd (v9 H1 Ts (uF x ys)) S (.lst (Ts.map .ref))) hk (fun b hb => ?_) (fun b o hb e => ?_), rfl, q Ts S nd frT lt nS (I1.hok.fresh hS)⟩
      · rw [zd (fun e => by rw [e] at hb; exact absurd hS (Nat.not_le_of_lt hb)), vH (fun m => absurd (Nat.lt_of_le_of_lt hS (big b m)) (Nat.not_lt_of_lt hb))]
      · by_cases hbS : b = S
        · subst hbS
          rw [zg] at e
          cases e
          refine ⟨?_, acc.toList, c', by rw [hTs]; exact vr Ts, by rw [Array.toArray_toList]; exact hl'⟩
          rw [List.length_map, lt, sizeLine_eq]
          unfold uF
          rw [List.length_zipWith]
          omega
        · rw [zd hbS] at e
          by_cases m : b ∈ Ts
          · obtain ⟨j, hj⟩ := List.mem_iff_getElem?.1 m
            obtain ⟨T', c, u, y, e1, e2, e3, e4, _⟩ := hacc j _ (at_ j b hj)
            cases e1
            have e3' : its[j]? = some y := by simpa using e3
            obtain ⟨yv, e5, e6⟩ := zaW rv e3'
            have ez : (uF x ys)[j]? = some [.str ⟨#[c]⟩, yv] := by
              unfold uF
              rw [List.getElem?_zipWith, Array.getElem?_toList, e2, e5]
            rw [Yd nd hj ez] at e
            cases e
            exact ⟨by show (2 : Nat) ≤ sizeLine; rw [sizeLine_eq]; decide, [.str ⟨#[c]⟩ u, y], .cons ⟨u, rfl⟩ (.cons e6 .nil), ⟨_, e4, rfl, 0, rfl⟩⟩
          · rw [vH m, I1.hok.fresh hb] at e
            cases e
end
section
variable {K : PySem.W.Frag}
noncomputable def kj (x : Str) (ds : List PyData) : List PyData := List.zipWith (fun c d => .tuple [.str ⟨#[c]⟩, d]) x.cps.toList ds
noncomputable def wLZ (T : TAW) : TEW := fun ρ O R => T ρ O fun ws O1 => ∃ x w2 us ds, ws = [.d (.str x), w2] ∧ zq O1 w2 = some us ∧ zX us = some ds ∧ x.cps.all (· < 128) = true ∧ x.length ≤ 1000 ∧ ds.length ≤ 1000 ∧ ∀ p, O1 p = none → R (.own p) (updO O1 p (.lst ((kj x ds).map W.d)))
theorem XJ {O : OM} : ∀ {Ts : List Addr} {cs : List (List PyData)} {vs : List (List V)} {Γ : Gh} {H : Hp}, Sim K Γ O H → Paired (fun c v => Reps K Γ.Z c v) cs vs → Ts.Nodup → (∀ T ∈ Ts, H T = none) → Ts.length = vs.length →
    ∃ Γ', Le Γ Γ' ∧ Sim K Γ' O (v9 H Ts vs) ∧ relWs K Γ' (cs.map fun c => .d (.tuple c)) (Ts.map V.ref)
  | [], cs, vs, Γ, H, S, r, nd, hn, hl => by
    have : vs = [] := List.length_eq_zero_iff.1 (by simpa using hl.symm)
    subst this
    cases r
    exact ⟨Γ, Le.refl _, S, .nil⟩
  | T :: Ts, cs, vs, Γ, H, S, r, nd, hn, hl => by
    cases r with
    | nil => simp at hl
    | cons a b =>
      rename_i c v cs vs
      obtain ⟨n1, n2⟩ := List.nodup_cons.1 nd
      obtain ⟨Γ1, l1, S1, r1⟩ := uk S a (hn T List.mem_cons_self)
      have hn' : ∀ T' ∈ Ts, upd H T (.tup v) T' = none := fun T' m => by
        rw [zd (fun e => n1 (by rw [← e]; exact m))]
        exact hn T' (List.mem_cons_of_mem _ m)
      obtain ⟨Γ2, l2, S2, r2⟩ := XJ S1 (Paired.mapP b fun _ _ z => Reps.same l1.z _ _ z) n2 hn' (by simpa using hl)
      exact ⟨Γ2, l1.trans l2, S2, .cons (r1.mono l2) r2⟩
theorem JJ {Γ : Gh} {ds : List PyData} {ys : List V} (h : relWs K Γ (ds.map W.d) ys) : ∀ cs : List Nat, Paired (fun c v => Reps K Γ.Z c v) (List.zipWith (fun c d => [PyData.str ⟨#[c]⟩, d]) cs ds) (List.zipWith (fun c y => [V.str ⟨#[c]⟩, y]) cs ys) := by
  induction ds generalizing ys with
  | nil =>
    cases h
    intro cs
    cases cs <;> exact .nil
  | cons d ds ih =>
    cases h with
    | cons a b =>
      intro cs
      cases cs with
      | nil => exact .nil
      | cons c cs => exact .cons ⟨_, _, rfl, rfl, _, _, rfl, a, rfl⟩ (ih b cs)
theorem Qj {t : TA} {T : TAW} (h : yC K t T) : zn K (tLZ K t) (wLZ T) := by
  intro Γ O H ρ σ S r Q R hT k
  refine h _ _ _ _ _ S r _ _ hT fun Γ1 O1 H1 ws vs l1 S1 rs h1 => ?_
  obtain ⟨x, w2, us, ds, rfl, e1, e2, hx, xl, dl, h1⟩ := h1
  cases rs with
  | cons rx t =>
    cases t with
    | cons ry t =>
      cases t
      obtain ⟨a, ys, rfl, q1, q2⟩ := z0 S1 ry e1
      rw [yc e2] at q2
      have yl := Paired.length q2
      rw [List.length_map] at yl
      refine ⟨x, a, ys, by rw [show _ = V.str x from rx], q1, hx, xl, by omega, fun Ts l nd hn hlen hl hl0 => ?_⟩
      obtain ⟨Γ2, l2, S2, r2⟩ := XJ S1 (JJ q2 x.cps.toList) nd hn (by rw [hlen]; rfl)
      have hl2 : v9 H1 Ts (uF x ys) l = none := by rw [vH hl]; exact hl0
      have hr : relWs K Γ2 ((kj x ds).map W.d) (Ts.map V.ref) := by
        have e : (kj x ds).map W.d = (List.zipWith (fun c d => [PyData.str ⟨#[c]⟩, d]) x.cps.toList ds).map fun c => W.d (.tuple c) := by
          unfold kj
          rw [List.map_zipWith, List.map_zipWith]
        rw [e]
        exact r2
      obtain ⟨hO, S3⟩ := qD S2 hr hl2
      exact k _ _ _ _ _ (l1.trans l2) S3 xJ (h1 l hO)
end
end L2
namespace L2
open PySem PySem.Spec PyProof.Rows PySem.Builtin PySem.Builtin.Str
section
variable {K : PySem.W.Frag}
noncomputable def KN : R2 := zbw
theorem zaX {X : Cx} : OpR X (binaryOp .Mult) KN := zbx
noncomputable def KO : R2W := fun x y O R => ∃ a ws ds n, x = .own a ∧ y = .d (.int n) ∧ O a = some (.lst ws) ∧ zX ws = some ds ∧ 0 ≤ n ∧ n ≤ 1000 ∧ ds.length * n.toNat ≤ 100000 ∧ ∀ p, O p = none → R (.own p) (updO O p (.lst ((List.replicate n.toNat ds).flatten.map W.d)))
theorem qO {Γ : Gh} : ∀ {ds : List PyData} {vs : List V}, Reps K Γ.Z ds vs → relWs K Γ (ds.map W.d) vs
  | [], _, h => by
    cases (show _ = [] from h)
    exact .nil
  | d :: ds, _, h => by
    obtain ⟨v, vs, rfl, h1, h2⟩ := h
    exact .cons h1 (qO h2)
theorem zcD : RefR K KN KO := by
  rintro Γ O H x y v u S rx ry Q R ⟨a, ws, ds, n, rfl, rfl, ho, e, n0, n1, hl, h⟩ k
  cases (show v = .ref a from rx)
  obtain ⟨_, vs, q1, q2⟩ := S.o _ _ ho
  rw [yc e] at q2
  have q3 := zt q2
  refine ⟨a, n, vs, rfl, ry, q1, by omega, by omega, by rw [← Reps.length q3, sizeLine_eq]; omega, fun p hp => ?_⟩
  obtain ⟨hO, S'⟩ := qD S (qO (je q3 n.toNat)) hp
  exact k _ _ _ _ _ (Le.refl _) S' xJ (h p hO)
end
noncomputable def jnS (sp : List Nat) : List (List Nat) → List Nat
  | [] => []
  | [a] => a
  | a :: b :: r => a ++ sp ++ jnS sp (b :: r)
theorem zcE {c : Nat} : ∀ {a b x y : List Nat}, c ∉ a → c ∉ b → a ++ c :: x = b ++ c :: y → a = b ∧ x = y
  | [], [], x, y, _, _, e => ⟨rfl, by simpa using e⟩
  | [], d :: b, x, y, _, hb, e => by
    simp at e
    exact absurd (by rw [← e.1]; exact List.mem_cons_self) hb
  | d :: a, [], x, y, ha, _, e => by
    simp at e
    exact absurd (by rw [e.1]; exact List.mem_cons_self) ha
  | d :: a, g :: b, x, y, ha, hb, e => by
    simp at e
    obtain ⟨h1, h2⟩ := zcE (fun z => ha (List.mem_cons_of_mem _ z)) (fun z => hb (List.mem_cons_of_mem _ z)) e.2
    exact ⟨by rw [e.1, h1], h2⟩
theorem kl {c : Nat} {tl : List Nat} : ∀ {A B : List (List Nat)}, A ≠ [] → B ≠ [] → (∀ a ∈ A, c ∉ a) → (∀ b ∈ B, c ∉ b) → jnS (c :: tl) A = jnS (c :: tl) B → A = B
  | [], _, h, _, _, _, _ => absurd rfl h
  | _, [], _, h, _, _, _ => absurd rfl h
  | [a], [b], _, _, _, _, e => by rw [show a = b from e]
  | [a], b :: d :: s, _, _, ha, _, e => by
    have e : a = b ++ (c :: tl) ++ jnS (c :: tl) (d :: s) := e
    exact absurd (by rw [e]; simp) (ha a List.mem_cons_self)
  | a :: d :: r, [b], _, _, _, hb, e => by
    have e : a ++ (c :: tl) ++ jnS (c :: tl) (d :: r) = b := e
    exact absurd (by rw [← e]; simp) (hb b List.mem_cons_self)
  | a :: d :: r, b :: g :: s, _, _, ha, hb, e => by
    have e : a ++ (c :: tl) ++ jnS (c :: tl) (d :: r) = b ++ (c :: tl) ++ jnS (c :: tl) (g :: s) := e
    rw [List.append_assoc, List.append_assoc, List.cons_append, List.cons_append] at e
    obtain ⟨h1, h2⟩ := zcE (ha a List.mem_cons_self) (hb b List.mem_cons_self) e
    have h3 := List.append_cancel_left h2
    rw [h1, kl (A := d :: r) (B := g :: s) (by simp) (by simp) (fun z hz => ha z (List.mem_cons_of_mem _ hz)) (fun z hz => hb z (List.mem_cons_of_mem _ hz)) h3]
theorem yB (sep : Str) : ∀ ps : List Str, (Str.join sep ps).cps.toList = jnS sep.cps.toList (ps.map (·.cps.toList))
  | [] => rfl
  | [p] => rfl
  | p :: q :: r => by
    rw [join_cons_cons, zC, zC, yB sep (q :: r)]
    rfl
noncomputable def Zr (x : Str) (c d : Nat) : Prop := ∀ k : Nat, x.cps.toList[k]? = some c → x.cps.toList[k + 1]? = some d
theorem Qk {x : Str} {c d k : Nat} (h1 : x.cps.toList[k]? = some c) (h2 : x.cps.toList[k + 1]? = some d) : StrLaws.At x ⟨#[c, d]⟩ x.length k := by
  have l2 := (List.getElem?_eq_some_iff.mp h2).1
  have ll : x.length = x.cps.toList.length := rfl
  refine ⟨by show k + 2 ≤ x.length; omega, ?_⟩
  rw [StrLaws.subAt_eq]
  show (((x.cps.toList.drop k).take 2 == [c, d]) = true)
  rw [List.drop_eq_getElem_cons (by omega), List.drop_eq_getElem_cons (by omega)]
  obtain ⟨_, e1⟩ := List.getElem?_eq_some_iff.mp h1
  obtain ⟨_, e2⟩ := List.getElem?_eq_some_iff.mp h2
  rw [e1, e2]
  simp
theorem uG {x : Str} {c d : Nat} (ht : Zr x c d) (a b : Nat) (hb : b ≤ x.length) (hn : ∀ k, a ≤ k → k < b → ¬ StrLaws.At x ⟨#[c, d]⟩ x.length k) : c ∉ (strSub x a b).cps.toList := by
  intro hm
  rw [StrLaws.strSub_toList] at hm
  obtain ⟨j, hj⟩ := List.getElem?_of_mem hm
  have hlt : j < b - a := by
    have h1 : j < ((x.cps.toList.drop a).take (b - a)).length := (List.getElem?_eq_some_iff.mp hj).1
    simp at h1
    omega
  rw [List.getElem?_take_of_lt hlt, List.getElem?_drop] at hj
  exact hn (a + j) (by omega) (by omega) (Qk hj (ht _ hj))
theorem qP {x : Str} {c d : Nat} (ht : Zr x c d) : ∀ (cuts : List Nat) (a f : Nat), StrLaws.ChainG x ⟨#[c, d]⟩ x.length a cuts f → (∀ k, f ≤ k → ¬ StrLaws.At x ⟨#[c, d]⟩ x.length k) → ∀ p ∈ StrLaws.partsFrom x (⟨#[c, d]⟩ : Str).length a cuts, c ∉ p.cps.toList
  | [], a, f, h, hn, p, hp => by
    have e : f = a := h
    subst e
    rw [List.mem_singleton.mp hp]
    exact uG ht f x.length (Nat.le_refl _) fun k h1 _ => hn k h1
  | g :: r, a, f, h, hn, p, hp => by
    rcases List.mem_cons.mp hp with rfl | hp'
    · exact uG ht a g (by have := h.2.1.1; omega) h.2.2.1
    · exact qP ht r _ f h.2.2.2 hn p hp'
theorem YY {x : Str} {c d : Nat} (hc : c < 128) (hd : d < 128) (hx : x.cps.all (· < 128) = true) (ht : Zr x c d) : ∀ p ∈ Txt.split x ⟨#[c, d]⟩, c ∉ p.cps.toList := by
  obtain ⟨f, hG, hn⟩ := StrLaws.occ_tight x ⟨#[c, d]⟩ (by show 1 ≤ 2; decide)
  have k1 : Builtin.Str.strKind ⟨#[c, d]⟩ = 1 := by
    unfold Builtin.Str.strKind
    rw [if_pos (by simp; omega)]
  unfold Txt.split
  split
  · rename_i h
    intro p hp
    rw [List.mem_singleton.mp hp]
    intro hm
    obtain ⟨j, hj⟩ := List.getElem?_of_mem hm
    have hA := Qk hj (ht _ hj)
    rw [Bool.or_eq_true, decide_eq_true_eq, decide_eq_true_eq, k1] at h
    rcases h with h | h
    · have := hA.1; omega
    · have : 1 ≤ Builtin.Str.strKind x := by unfold Builtin.Str.strKind; split <;> (try split) <;> omega
      omega
  · split
    · rename_i he
      intro p hp
      rw [List.mem_singleton.mp hp]
      have e0 : occurrences x ⟨#[c, d]⟩ 0 x.length (x.length + 1) = [] := List.isEmpty_iff.mp he
      rw [e0] at hG
      have ef : f = 0 := hG
      subst ef
      rw [← StrLaws.sub_whole x]
      exact uG ht 0 x.length (Nat.le_refl _) fun k h1 _ => hn k h1
    · rw [StrLaws.partsBetween_eq]
      exact qP ht _ 0 f hG hn
theorem Ye {c d : Nat} (hcd : c ≠ d) : ∀ {A : List (List Nat)}, (∀ a ∈ A, c ∉ a) → ∀ k : Nat, (jnS [c, d] A)[k]? = some c → (jnS [c, d] A)[k + 1]? = some d
  | [], _, k, e => by simp [jnS] at e
  | [a], h, k, e => absurd (List.mem_of_getElem? e) (h a List.mem_cons_self)
  | a :: b :: r, h, k, e => by
    have h1 : jnS [c, d] (a :: b :: r) = a ++ (c :: d :: jnS [c, d] (b :: r)) := by
      show a ++ [c, d] ++ _ = _
      simp
    rw [h1] at e ⊢
    rcases Nat.lt_trichotomy k a.length with q | q | q
    · rw [List.getElem?_append_left q] at e
      exact absurd (List.mem_of_getElem? e) (h a List.mem_cons_self)
    · subst q
      rw [List.getElem?_append_right (by omega)]
      simp
    · obtain ⟨j, rfl⟩ : ∃ j, k = a.length + 1 + j := ⟨k - a.length - 1, by omega⟩
      rw [List.getElem?_append_right (by omega), show a.length + 1 + j - a.length = j + 1 by omega, List.getElem?_cons_succ] at e
      rw [List.getElem?_append_right (by omega), show a.length + 1 + j + 1 - a.length = j + 1 + 1 by omega, List.getElem?_cons_succ]
      cases j with
      | zero =>
        simp at e
        exact absurd e.symm hcd
      | succ j =>
        rw [List.getElem?_cons_succ] at e ⊢
        exact Ye hcd (fun a ha => h a (List.mem_cons_of_mem _ ha)) j e
theorem Yf (x y : Str) : Txt.split x y ≠ [] := by
  have := split_pos x y
  intro e
  rw [e] at this
  exact absurd this (by decide)
theorem YZ {c : Nat} {ws : List Str} (hn : ws ≠ []) (hf : ∀ w ∈ ws, c ∉ w.cps.toList) : Txt.split (Str.join ⟨#[c]⟩ ws) ⟨#[c]⟩ = ws := by
  apply v8
  refine kl (c := c) (tl := []) (by simpa using Yf _ _) (by simpa using hn) ?_ ?_ ?_
  · intro a ha
    obtain ⟨p, hp, rfl⟩ := List.mem_map.mp ha
    exact StrLaws.split_free _ c p hp
  · intro a ha
    obtain ⟨p, hp, rfl⟩ := List.mem_map.mp ha
    exact hf p hp
  · have e := congrArg (fun z : Str => z.cps.toList) (StrLaws.join_split (Str.join ⟨#[c]⟩ ws) ⟨#[c]⟩)
    simp only [yB] at e
    exact e
theorem Y0 {c d : Nat} {ws : List Str} (hcd : c ≠ d) (hc : c < 128) (hd : d < 128) (hn : ws ≠ []) (hf : ∀ w ∈ ws, c ∉ w.cps.toList) (hx : (Str.join ⟨#[c, d]⟩ ws).cps.all (· < 128) = true) : Txt.split (Str.join ⟨#[c, d]⟩ ws) ⟨#[c, d]⟩ = ws := by
  have hf' : ∀ a ∈ ws.map (·.cps.toList), c ∉ a := fun a ha => by
    obtain ⟨p, hp, rfl⟩ := List.mem_map.mp ha
    exact hf p hp
  have ht : Zr (Str.join ⟨#[c, d]⟩ ws) c d := fun k e => by
    rw [yB] at e ⊢
    exact Ye hcd hf' k e
  apply v8
  refine kl (c := c) (tl := [d]) (by simpa using Yf _ _) (by simpa using hn) ?_ hf' ?_
  · intro a ha
    obtain ⟨p, hp, rfl⟩ := List.mem_map.mp ha
    exact YY hc hd hx ht p hp
  · have e := congrArg (fun z : Str => z.cps.toList) (StrLaws.join_split (Str.join ⟨#[c, d]⟩ ws) ⟨#[c, d]⟩)
    simp only [yB] at e
    exact e
theorem zaY {a b : Str} {c : Nat} (h : c ∉ a.cps.toList) : Txt.partition (a ++ ⟨#[c]⟩ ++ b) ⟨#[c]⟩ = (a, ⟨#[c]⟩, b) := by
  have e0 : (a ++ ⟨#[c]⟩ ++ b).cps.toList = a.cps.toList ++ c :: b.cps.toList := by rw [zC, zC]; simp
  have ea : a.length = a.cps.toList.length := rfl
  have at_ : ∀ k, StrLaws.At (a ++ ⟨#[c]⟩ ++ b) ⟨#[c]⟩ (a ++ ⟨#[c]⟩ ++ b).length k ↔ (a.cps.toList ++ c :: b.cps.toList)[k]? = some c := fun k => by
    rw [← e0]
    exact StrLaws.subAt_one _ c k
  have hA : StrLaws.At (a ++ ⟨#[c]⟩ ++ b) ⟨#[c]⟩ (a ++ ⟨#[c]⟩ ++ b).length a.length := by
    rw [at_, List.getElem?_append_right (by omega), ea]
    simp
  have hB : ∀ k, k < a.length → ¬ StrLaws.At (a ++ ⟨#[c]⟩ ++ b) ⟨#[c]⟩ (a ++ ⟨#[c]⟩ ++ b).length k := fun k hk z => by
    rw [at_, List.getElem?_append_left (by omega)] at z
    exact h (List.mem_of_getElem? z)
  unfold Txt.partition
  rcases StrLaws.occ_head (a ++ ⟨#[c]⟩ ++ b) ⟨#[c]⟩ 1 (Nat.le_refl 1) with ⟨_, z⟩ | ⟨i, r, e, hi, hk⟩
  · exact absurd hA (z _)
  · have : i = a.length := by
      rcases Nat.lt_trichotomy i a.length with q | q | q
      · exact absurd hi (hB i q)
      · exact q
      · exact absurd hA (hk _ q)
    subst this
    rw [e]
    have l0 : (a ++ ⟨#[c]⟩ ++ b).length = a.cps.toList.length + (1 + b.cps.toList.length) := by
      show (a ++ ⟨#[c]⟩ ++ b).cps.size = _
      rw [← Array.length_toList, e0]
      simp
      omega
    have x1 : strSub (a ++ ⟨#[c]⟩ ++ b) 0 a.length = a := by
      apply xP
      rw [StrLaws.strSub_toList, e0, ea]
      simp
    have x2 : strSub (a ++ ⟨#[c]⟩ ++ b) (a.length + (⟨#[c]⟩ : Str).length) (a ++ ⟨#[c]⟩ ++ b).length = b := by
      apply xP
      rw [StrLaws.strSub_toList, e0, l0]
      show ((a.cps.toList ++ c :: b.cps.toList).drop (a.cps.toList.length + 1)).take (a.cps.toList.length + (1 + b.cps.toList.length) - (a.cps.toList.length + 1)) = _
      rw [show a.cps.toList ++ c :: b.cps.toList = (a.cps.toList ++ [c]) ++ b.cps.toList by simp, List.drop_left' (by simp), List.take_of_length_le (by omega)]
    show (strSub _ 0 a.length, _, _) = _
    rw [x1, x2]
noncomputable def xE (n : Nat) : Str := Str.ofString ((n : Int).repr)
noncomputable def ve : Str := ⟨#[44, 32]⟩
noncomputable def vT : Str := ⟨#[58]⟩
noncomputable def nl : Str := ⟨#[10]⟩
noncomputable def jK (z : Str) : Bool := z.cps.toList.all fun c => decide (c ≠ 44 ∧ c ≠ 58 ∧ c ≠ 10 ∧ c < 128)
theorem vw : ∀ n : _root_.Fin 25, jK (xE n.val) = true ∧ (xE n.val).length ≤ 2 ∧ ∀ m : _root_.Fin 25, xE n.val = xE m.val → n = m := by decide +kernel
theorem um : ∀ n : _root_.Fin 512, jK (yt n.val) = true ∧ (yt n.val).length ≤ 40 := by decide +kernel
theorem uH {z : Str} (h : jK z = true) {c : Nat} (hc : c ∈ z.cps.toList) : c ≠ 44 ∧ c ≠ 58 ∧ c ≠ 10 ∧ c < 128 := by
  unfold jK at h
  rw [List.all_eq_true] at h
  exact of_decide_eq_true (h c hc)
noncomputable def stT (t : T3) : Str := xE (t.2.1 - t.1) ++ vT ++ yt t.2.2.toNat
noncomputable def km (t : T3) : Prop := t.1 < t.2.1 ∧ t.2.1 - t.1 ≤ 24 ∧ 0 ≤ t.2.2 ∧ t.2.2 < 512
theorem XL {t : T3} (h : km t) {c : Nat} (hc : c ∈ (stT t).cps.toList) : c ≠ 44 ∧ c ≠ 10 ∧ c < 128 := by
  obtain ⟨h1, h2, h3, h4⟩ := h
  unfold stT at hc
  rw [zC, zC, List.mem_append, List.mem_append] at hc
  rcases hc with (hc | hc) | hc
  · have := uH (vw ⟨t.2.1 - t.1, by omega⟩).1 hc
    exact ⟨this.1, this.2.2.1, this.2.2.2⟩
  · have : c = 58 := by simpa [vT] using hc
    subst this
    decide
  · have := uH (um ⟨t.2.2.toNat, by omega⟩).1 hc
    exact ⟨this.1, this.2.2.1, this.2.2.2⟩
theorem qI {t : T3} (h : km t) : (stT t).length ≤ 43 := by
  obtain ⟨h1, h2, h3, h4⟩ := h
  have a := (vw ⟨t.2.1 - t.1, by omega⟩).2.1
  have b := (um ⟨t.2.2.toNat, by omega⟩).2
  unfold stT
  rw [strLen_append, strLen_append]
  have : vT.length = 1 := rfl
  simp only at a b
  omega
theorem JK {t : T3} (h : km t) : Txt.partition (stT t) vT = (xE (t.2.1 - t.1), vT, yt t.2.2.toNat) := by
  obtain ⟨h1, h2, h3, h4⟩ := h
  exact zaY fun hc => (uH (vw ⟨t.2.1 - t.1, by omega⟩).1 hc).2.1 rfl
noncomputable def yg (r : Rw6) : Str := Str.join ve ((stN (zv r) r.length).map stT)
noncomputable def yb (r : Rw6) : Str := Str.join noS (r.map (·.1))
noncomputable def okW (r : Rw6) : Prop := 1 ≤ r.length ∧ r.length ≤ 24 ∧ okR r ∧ ∀ c ∈ r, 0 ≤ c.2 ∧ c.2 < 512
theorem XM {r : Rw6} (h : okW r) {j : Nat} (hj : j < r.length) : 0 ≤ zv r j ∧ zv r j < 512 := by
  unfold zv cA
  rw [List.getD_eq_getElem?_getD, List.getElem?_eq_getElem hj]
  exact h.2.2.2 _ (List.getElem_mem hj)
theorem xR {r : Rw6} (h : okW r) : ∀ t ∈ stN (zv r) r.length, km t := fun t ht => by
  obtain ⟨h1, h2, h3⟩ := Xy ht
  have := h.2.1
  have hk := XM h (j := t.1) (by omega)
  rw [h3] at hk
  exact ⟨h1, by omega, hk.1, hk.2⟩
theorem zcF {f : Nat → Int} {n : Nat} (h : 1 ≤ n) : stN f n ≠ [] := by
  obtain ⟨m, rfl⟩ : ∃ m, n = m + 1 := ⟨n - 1, by omega⟩
  simp [stN]
theorem Ql {sp : List Nat} : ∀ {A : List (List Nat)} {c : Nat}, c ∈ jnS sp A → c ∈ sp ∨ ∃ a ∈ A, c ∈ a
  | [], _, h => by cases h
  | [a], c, h => .inr ⟨a, by simp, h⟩
  | a :: b :: r, c, h => by
    have h : c ∈ a ++ sp ++ jnS sp (b :: r) := h
    rcases List.mem_append.1 h with h | h
    · rcases List.mem_append.1 h with h | h
      · exact .inr ⟨a, by simp, h⟩
      · exact .inl h
    · rcases Ql h with h | ⟨x, hx, hc⟩
      · exact .inl h
      · exact .inr ⟨x, List.mem_cons_of_mem _ hx, hc⟩
theorem kW {r : Rw6} (h : okW r) {c : Nat} (hc : c ∈ (yg r).cps.toList) : c ≠ 10 ∧ c < 128 := by
  unfold yg at hc
  rw [yB] at hc
  rcases Ql hc with hc | ⟨a, ha, hc⟩
  · have : c = 44 ∨ c = 32 := by simpa [ve] using hc
    rcases this with rfl | rfl <;> decide
  · rw [List.map_map] at ha
    obtain ⟨t, ht, rfl⟩ := List.mem_map.1 ha
    have := XL (xR h t ht) hc
    exact ⟨this.2.1, this.2.2⟩
theorem zcG {z : Str} (h : ∀ c ∈ z.cps.toList, c < 128) : z.cps.all (· < 128) = true := by
  rw [← Array.all_toList, List.all_eq_true]
  exact fun c hc => decide_eq_true (h c hc)
theorem Y1 {r : Rw6} (h : okW r) : Txt.split (yg r) ve = (stN (zv r) r.length).map stT := by
  refine Y0 (by decide) (by decide) (by decide) (by simpa using zcF h.1) ?_ (zcG fun c hc => (kW h hc).2)
  intro w hw hc
  obtain ⟨t, ht, rfl⟩ := List.mem_map.1 hw
  exact (XL (xR h t ht) hc).1 rfl
theorem vJ : ∀ L : List Str, (∀ q ∈ L, q.length ≤ 43) → (L.map (·.length)).sum ≤ 43 * L.length
  | [], _ => by simp
  | a :: L, h => by
    have := vJ L fun q hq => h q (List.mem_cons_of_mem _ hq)
    have := h a List.mem_cons_self
    simp only [List.map_cons, List.sum_cons, List.length_cons]
    omega
theorem u9 {r : Rw6} (h : okW r) : (yg r).length ≤ 1100 := by
  have a := uz ve ((stN (zv r) r.length).map stT)
  have b := vJ ((stN (zv r) r.length).map stT) fun q hq => by
    obtain ⟨t, ht, rfl⟩ := List.mem_map.1 hq
    exact qI (xR h t ht)
  have c := qF (zv r) r.length
  have d := h.2.1
  rw [List.length_map] at a b
  have : ve.length = 2 := rfl
  rw [this] at a
  show (yg r).cps.size ≤ 1100
  rw [← Array.length_toList]
  unfold yg
  omega
theorem ua {r : Rw6} (h : okR r) : ∃ ks : List Nat, (yb r).cps.toList = ks ∧ r.map (·.1) = ks.map (fun k => (⟨#[k]⟩ : Str)) ∧ ∀ k ∈ ks, 32 ≤ k ∧ k ≤ 126 := by
  have : ∃ ks : List Nat, r.map (·.1) = ks.map (fun k => (⟨#[k]⟩ : Str)) ∧ ∀ k ∈ ks, 32 ≤ k ∧ k ≤ 126 := by
    induction r with
    | nil => exact ⟨[], rfl, by simp⟩
    | cons c r ih =>
      obtain ⟨ks, e, hk⟩ := ih fun x hx => h x (List.mem_cons_of_mem _ hx)
      obtain ⟨k, k1, k2, e2⟩ := h c List.mem_cons_self
      refine ⟨k :: ks, by simp [e, e2], fun x hx => ?_⟩
      rcases List.mem_cons.1 hx with rfl | hx
      · exact ⟨k1, k2⟩
      · exact hk x hx
  obtain ⟨ks, e, hk⟩ := this
  refine ⟨ks, ?_, e, hk⟩
  unfold yb
  rw [e]
  exact kT ks
theorem jL {r : Rw6} (h : okR r) {c : Nat} (hc : c ∈ (yb r).cps.toList) : c ≠ 10 ∧ c < 128 := by
  obtain ⟨ks, e, _, hk⟩ := ua h
  rw [e] at hc
  have := hk c hc
  exact ⟨by omega, by omega⟩
theorem uI {r : Rw6} (h : okR r) : (yb r).length = r.length := by
  obtain ⟨ks, e, e2, _⟩ := ua h
  show (yb r).cps.size = _
  rw [← Array.length_toList, e, ← List.length_map (f := fun c : Cel => c.1) (as := r), e2, List.length_map]
theorem Yg {f : Nat → Int} : ∀ {l : List T3} {a b : Nat}, Cov f a l b → (l.flatMap fun t => List.replicate (t.2.1 - t.1) t.2.2) = (List.range (b - a)).map fun i => f (a + i)
  | [], a, b, h => by
    cases h
    simp
  | t :: l, a, b, h => by
    have hle := h.2.2.2.le
    obtain ⟨h1, h2, h3, h4⟩ := h
    rw [List.flatMap_cons, Yg h4]
    apply List.ext_getElem?
    intro i
    have e1 : (List.replicate (t.2.1 - t.1) t.2.2).length = t.2.1 - a := by rw [List.length_replicate, h1]
    rcases Nat.lt_or_ge i (t.2.1 - a) with q | q
    · rw [List.getElem?_append_left (by omega), List.getElem?_replicate, if_pos (by omega), List.getElem?_map, List.getElem?_range (by omega)]
      simp only [Option.map_some]
      rw [h3 (a + i) (by omega) (by omega)]
    · rw [List.getElem?_append_right (by omega), e1, List.getElem?_map, List.getElem?_map]
      rcases Nat.lt_or_ge i (b - a) with z | z
      · rw [List.getElem?_range (by omega), List.getElem?_range z]
        simp only [Option.map_some]
        congr 2
        omega
      · rw [List.getElem?_eq_none (by simp; omega), List.getElem?_eq_none (by simp; omega)]
        rfl
theorem Yh {r : Rw6} : ((stN (zv r) r.length).flatMap fun t => List.replicate (t.2.1 - t.1) t.2.2) = r.map (·.2) := by
  rw [Yg (qE (zv r) r.length)]
  apply List.ext_getElem?
  intro i
  rw [List.getElem?_map, List.getElem?_map]
  rcases Nat.lt_or_ge i r.length with z | z
  · rw [List.getElem?_range (by omega), List.getElem?_eq_getElem z]
    simp only [Option.map_some, Nat.zero_add]
    congr 1
    unfold zv cA
    rw [List.getD_eq_getElem?_getD, List.getElem?_eq_getElem z]
    rfl
  · rw [List.getElem?_eq_none (by simp; omega), List.getElem?_eq_none z]
    rfl
theorem zaZ {r : Rw6} (h : okR r) : kj (yb r) ((r.map (·.2)).map PyData.int) = r.map zF := by
  obtain ⟨ks, e, e2, _⟩ := ua h
  unfold kj
  rw [e]
  clear e
  induction r generalizing ks with
  | nil =>
    cases ks with
    | nil => rfl
    | cons k ks => cases e2
  | cons c r ih =>
    cases ks with
    | nil => cases e2
    | cons k ks =>
      simp only [List.map_cons, List.cons.injEq] at e2
      simp only [List.map_cons, List.zipWith_cons_cons]
      rw [ih (fun x hx => h x (List.mem_cons_of_mem _ hx)) ks e2.2 fun x hx => by rename_i hk; exact hk x (List.mem_cons_of_mem _ hx)]
      congr 1
      unfold zF
      rw [e2.1]
noncomputable abbrev Pc := List Rw6
noncomputable def zH (p : Pc) : List Str := p.map yb ++ p.map yg
noncomputable def yy (p : Pc) : Str := Str.join noS ((zH p).map (· ++ nl))
noncomputable def x0 (p : Pc) : Prop := 1 ≤ p.length ∧ p.length ≤ 12 ∧ ∀ r ∈ p, okW r
theorem VE (L : List Str) : (Str.join noS (L.map (· ++ nl))).cps.toList = jnS [10] (L.map (·.cps.toList) ++ [[]]) := by
  rw [yB]
  induction L with
  | nil => rfl
  | cons a L ih =>
    cases L with
    | nil =>
      show (a ++ nl).cps.toList = a.cps.toList ++ [10] ++ []
      rw [zC, List.append_nil]
      rfl
    | cons b L =>
      simp only [List.map_cons, List.cons_append] at ih ⊢
      show (a ++ nl).cps.toList ++ noS.cps.toList ++ jnS noS.cps.toList ((b ++ nl).cps.toList :: _) = a.cps.toList ++ [10] ++ jnS [10] (b.cps.toList :: _)
      rw [ih, zC]
      show a.cps.toList ++ [10] ++ [] ++ _ = _
      rw [List.append_nil]
theorem qb {p : Pc} (h : x0 p) {z : Str} (hz : z ∈ zH p) : (∀ c ∈ z.cps.toList, c ≠ 10 ∧ c < 128) ∧ z.length ≤ 1100 := by
  unfold zH at hz
  rcases List.mem_append.1 hz with hz | hz
  · obtain ⟨r, hr, rfl⟩ := List.mem_map.1 hz
    have q := h.2.2 r hr
    exact ⟨fun c hc => jL q.2.2.1 hc, by rw [uI q.2.2.1]; have := q.2.1; omega⟩
  · obtain ⟨r, hr, rfl⟩ := List.mem_map.1 hz
    have q := h.2.2 r hr
    exact ⟨fun c hc => kW q hc, u9 q⟩
theorem Y2 {p : Pc} (h : x0 p) : Txt.split (yy p) nl = zH p ++ [noS] := by
  have e : yy p = Str.join nl (zH p ++ [noS]) := by
    apply xP
    unfold yy
    rw [VE, yB, List.map_append]
    rfl
  rw [e]
  refine YZ (by simp) fun w hw hc => ?_
  rcases List.mem_append.1 hw with hw | hw
  · exact ((qb h hw).1 10 hc).1 rfl
  · cases List.mem_singleton.1 hw
    exact absurd hc (by decide)
theorem uJ : ∀ L : List Str, (∀ q ∈ L, q.length ≤ 1101) → (L.map (·.length)).sum ≤ 1101 * L.length
  | [], _ => by simp
  | a :: L, h => by
    have := uJ L fun q hq => h q (List.mem_cons_of_mem _ hq)
    have := h a List.mem_cons_self
    simp only [List.map_cons, List.sum_cons, List.length_cons]
    omega
theorem kX {p : Pc} (h : x0 p) : (((zH p).map (· ++ nl)).map (·.length)).sum ≤ 26424 ∧ (zH p).length ≤ 24 := by
  have l1 : (zH p).length ≤ 24 := by
    unfold zH
    rw [List.length_append, List.length_map, List.length_map]
    have := h.2.1
    omega
  have := uJ ((zH p).map (· ++ nl)) fun q hq => by
    obtain ⟨z, hz, rfl⟩ := List.mem_map.1 hq
    have := (qb h hz).2
    rw [strLen_append]
    have : nl.length = 1 := rfl
    omega
  rw [List.length_map] at this
  exact ⟨by omega, l1⟩
theorem Qm {p : Pc} (h : x0 p) : (yy p).length ≤ 26424 := by
  have a := uz noS ((zH p).map (· ++ nl))
  have b := (kX h).1
  have : noS.length = 0 := rfl
  rw [this] at a
  show (yy p).cps.size ≤ 26424
  rw [← Array.length_toList]
  unfold yy
  omega
end L2
namespace L2
open PySem PySem.Spec PyProof.Rows
theorem x3 {T1 T2 U : TSW} {D : EndsW} {ρ : WS} {O : OM} (J : WS → OM → Prop) (ht : ∀ R : WS → OM → Prop, (∀ ρ' O', J ρ' O' → R ρ' O') → xK T1 T2 { D with nx := R } ρ O) (hu : ∀ ρ' O', J ρ' O' → U D ρ' O') : xK T1 (xK T2 U) D ρ O := ht (U D) hu
end L2
namespace Att
open PySem PySem.W PySem.Calls PyProof.Rows
theorem JL {i : Int} (x : (WData.int i).layable = true) : L2.Bt 1048576 i := by
  have h := (layableW_iff.mp x).2.2
  simp only [WData.weight] at h
  unfold L2.Bt
  by_cases hi : i = 0
  · subst hi
    exact Nat.two_pow_pos _
  · have hn : i.natAbs ≠ 0 := by omega
    simp only [beq_iff_eq, hi, if_false] at h
    exact (Nat.log2_lt hn).mp (by
      have e : (2 : Nat) ^ 20 = 1048576 := by decide
      omega)
theorem attB {l : OpenLaw} {n : Nat} {q : Program} {loose : List Str} {XP : (Str → Option Value) → Heap → Prop} {YP : World → Heap → Prop} {d : DefRec}
    (hn : l.most = some n) (hdf : d.params.defaults = [])
    (call : ∀ (w : World) (s₀ s₁ : Shared) (mg mb : Str → Option Value) (fa a : Addr) (vs : List Value) (ns : List Int), Ground q loose [] XP w s₀ mg mb s₁.heap → YP w s₁.heap → mg d.name = some (.ref fa) →
      s₁.heap.get? a = some { cls := .type "list", data := .seq vs.toArray } → IntsAre vs ns → ns.length ≤ n → (∀ i ∈ ns, L2.Bt 1048576 i) → s₁.gens = #[] →
      codeAny (model l.prog w) callerA (.call (.ref fa) ⟨[.ref a], []⟩) (fun r s' => r = .ok (.ret (.bool true)) ∧ OldK s₁.heap s'.heap ∧ s'.os = s₁.os ∧ AllBare s'.gens) s₁) :
    WalkO q loose XP YP l.row.toRowW d [] (fun f vs => PySem.call f vs) := by
  intro w s₀ s₁ mg mb G Y fa o pm cd doc dV kV ho hd hcd hD hm hg args vals as hp hy hr hw hl
  cases Dflts.none hD hdf
  cases Dflts.noKw hD
  obtain ⟨a, vs, ns, e1, e2, hb, hi, hk⟩ := Ur hn hp hw
  subst e1
  subst e2
  have bits : ∀ i ∈ ns, L2.Bt 1048576 i := fun i h => JL (layableW_item (layableW_arg hy _ List.mem_cons_self) _ (List.mem_map.2 ⟨i, h, rfl⟩))
  refine enter_call (codeAny_mono (call w s₀ s₁ mg mb fa a vs ns G Y hm hb hi hk bits hg) ?_)
  rintro r s' ⟨rfl, c2, c3, c4⟩
  refine ⟨.inl ⟨.bool true, .bool true, [], rfl, fun _ => rfl, .bool true, Us l _, fun _ => ⟨List.Pairwise.nil, fun _ z => ?_⟩⟩, c2, c3, c4⟩
  cases z
end Att
namespace L2
open PySem PySem.Spec PyProof.Rows
theorem walkW {l : PySem.W.OpenLaw} {n k : Nat} {q : Program} {loose : List Str} {XP : (Str → Option Value) → Heap → Prop} {YP : World → Heap → Prop} {d : DefRec} {K : Params → PySem.W.Frag} {x : Str} {s : SpW} (hn : l.most = some n) (hn2 : n ≤ 1000) (hdf : d.params.defaults = []) (hr : Room k callerA)
    (hY : ∀ (w : World) (h : Heap), YP w h → (K w.params).In h)
    (F : ∀ (w : World) (mg : Str → Option Value) (fa : Addr) (h : Heap), (K w.params).In h → h.Ns mainGlobals mg → mg d.name = some (.ref fa) →
      ∃ fd : FuncData, (∀ (s : Shared) (u : Value), BindsTo s fd ⟨[u], []⟩ [(x, u)]) ∧ ∀ base : Heap, (K w.params).In base → base.Ns mainGlobals mg → FnOk l.prog w (K w.params) mg base CX0 k fa fd [x] (zb (K w.params) s))
    (hs : ∀ (ns : List Int) (O : OM) (R : WK), ns.length ≤ n → (∀ i ∈ ns, Bt 1048576 i) → (∀ O', R (.d (.bool true)) O') → s [.d (.list (ns.map .int))] O R) :
    PySem.W.WalkO q loose XP YP l.row.toRowW d [] (fun f vs => PySem.call f vs) := by
  refine Att.attB hn hdf fun w s₀ s₁ mg mb fa a vs ns G Y hm hb hi hk bits hg => ?_
  obtain ⟨fd, e1, e2⟩ := F w mg fa _ (hY w _ Y) G.T.g hm
  refine QN (hY w _ Y) G.T.g G.T.b G.T.builtins G.T.nolimit hg hb hi (Nat.le_trans hk (Nat.le_trans hn2 (by decide))) hr e2 e1 (fun H hO hS => ?_) fun _ _ _ z => z
  refine ⟨⟨H, fun _ => none, fun _ => none⟩, fun _ => none, [.d (.list (ns.map .int))], fun w _ => w = .d (.bool true), ?_, .cons ⟨a, _, rfl, hS, kM ns⟩ .nil, hs ns _ _ hk bits fun _ => rfl, ?_⟩
  · exact ⟨Same.refl _, fun _ _ e => (by cases e), fun _ _ e => (by cases e), fun _ _ e => (by cases e), fun _ _ e => (by cases e), fun _ _ e => (by cases e), fun _ _ e => (by cases e), fun _ _ _ _ _ _ _ e => (by cases e)⟩
  · rintro Γ' O' H' w v _ _ r rfl
    exact r
end L2
namespace K24
open PySem L2
local macro_rules | `(tactic| walk_at "ref") => `(tactic| repeat' (first
  | with_reducible exact zca
  | with_reducible exact K7
  | with_reducible exact K8
  | with_reducible exact zbE
  | with_reducible exact K9
  | with_reducible apply zbF
  | with_reducible exact zc7
  | with_reducible exact zc8
  | with_reducible exact zcm
  | with_reducible exact zcn
  | with_reducible exact zcc
  | with_reducible exact zcY
  | with_reducible exact zcZ
  | with_reducible exact zc4
  | with_reducible exact zdy
  | with_reducible exact zb4
  | with_reducible exact zcD
  | with_reducible exact zcr
  | with_reducible exact zdc
  | with_reducible apply zbG
  | exact zdA (fun _ => rfl)
  | exact zc6 (fun _ _ => rfl)
  | exact zdz (fun _ _ => rfl)
  | with_reducible apply Jp
  | with_reducible apply Q3
  | with_reducible apply Q4
  | with_reducible apply zbK
  | with_reducible apply Xv
  | with_reducible apply zc9
  | with_reducible apply zaa
  | with_reducible apply zbJ
  | with_reducible apply zab
  | with_reducible apply Jn
  | with_reducible exact zas
  | with_reducible exact zad
  | with_reducible apply zaB
  | with_reducible apply zaA
  | with_reducible apply Q7
  | with_reducible exact zb9
  | with_reducible apply zae
  | with_reducible apply zaf
  | with_reducible apply Ji
  | with_reducible exact U3
  | with_reducible apply JD
  | with_reducible apply Qj
  | with_reducible apply JF
  | with_reducible exact zcw
  | with_reducible apply zaG
  | with_reducible apply Vn
  | with_reducible apply UL
  | with_reducible apply zbN
  | with_reducible exact zdi
  | with_reducible exact zcu
  | with_reducible exact zb7
  | with_reducible exact zbO
  | with_reducible exact zc3
  | with_reducible exact zb8
  | with_reducible exact zda
  | with_reducible exact zbP
  | with_reducible exact zdb
  | with_reducible apply zap
  | with_reducible exact Vg
  | with_reducible apply Jk
  | with_reducible apply zax
  | with_reducible apply zbV
  | with_reducible apply zaq
  | with_reducible apply zbX
  | with_reducible apply zan
  | with_reducible exact zcq
  | with_reducible exact Jh
  | with_reducible exact zce
  | with_reducible exact Jr
  | with_reducible exact zau
  | with_reducible exact YX
  | with_reducible exact zao
  | with_reducible apply Jw
  | with_reducible apply Jx
  | with_reducible apply Vm
  | with_reducible apply UW
  | with_reducible apply Vo
  | with_reducible apply Jy
  | with_reducible apply Jv
  | with_reducible apply zay
  | with_reducible apply zai
  | with_reducible exact Ja
  | with_reducible apply Jb
  | with_reducible apply zaj
  | with_reducible apply zak
  | with_reducible apply zal
  | with_reducible exact Jd
  | with_reducible apply Jf
  | with_reducible exact Je
  | with_reducible apply UB
  | with_reducible apply zam
  | with_reducible apply UR
  | with_reducible apply Vt
  | with_reducible apply UC
  | with_reducible apply Jg
  | with_reducible apply UE
  | with_reducible apply UF
  | with_reducible apply UG))
local macro_rules | `(tactic| walk_at "wd") => `(tactic| ((try dsimp only [u7, List.getElem?_cons_zero, List.getElem?_cons_succ, wC, wOp, vI0, vI, wUn, vU, vEq, vNe, zcb, Kq, jB, ZZ, Q0, wOr, Q2, wIf, Vc, Zm, wCs, Zn, wCB, vI2, zcd, Kr, UM, UN, xK, Zo, jA, Vd, zc1, ZX, Jc, xy, ofV, Ve, List.set, List.map, yT, List.append, List.nil_append, List.cons_append]); try simp [Qi, wLZ, KO, U6, KC, KF, KH, wCD, JE, Vv, Ky, Kz, zco, isN, UZ, XA, U0, XB, U1, okN, KB, zct, U2, Z4, Z3, UV, KA, zcl, u7, wC, wOp, vI0, vI, wUn, vU, vEq, vNe, zcb, Kq, Jo, zbH, zbI, zb2, wIn, Km, ZZ, J9, zcg, Xw, Z0, Ks, UQ, Kt, Ka, wIf, jB, Q0, wOr, Q2, Q6, Vc, Zm, zbL, zbM, Kk, Zn, wCB, Q9, Kb, ZV, ZW, vI2, Kc, zb1, Xr, Kl, zcd, UM, wBM, zbY, ka, UH, xK, Zo, jA, Vd, ZX, Jc, xy, zbR, zbQ, Kd, Kr, UN, zbU, Ke, zbT, Kf, Kg, Kh, wLc, zb6, Zp, yf, yT, ofV, vOf, scD, uV, Va, zdu, yp, Ve, Vb, ZU, tyD, isI, zX, and_assoc, wCR, zaw, zj, UA]))
noncomputable def top (i : Nat) : Stmt := PySem.Challenge.pw_signscreen_k24_papers.main.body.getD i (.Pass ⟨0, 0, 0, 0⟩)
local macro_rules | `(tactic| walk_at "sc") => `(tactic| exact ⟨rfl, rfl, rfl, by decide +kernel, rfl, by decide +kernel, by decide +kernel⟩)
noncomputable abbrev uK : Stmt := top 12
theorem Y3 : FnScope ["thing", "least", "most"] ["thing", "least", "most"] (defScope uK) := by walk_at "sc"
noncomputable abbrev jh : Stmt := top 13
theorem Qn : FnScope ["thing"] ["thing"] (defScope jh) := by walk_at "sc"
noncomputable abbrev qd : Stmt := top 14
theorem VF : FnScope ["ink"] ["ink"] (defScope qd) := by walk_at "sc"
noncomputable abbrev qe : Stmt := top 15
theorem VG : FnScope ["ink"] ["ink"] (defScope qe) := by walk_at "sc"
noncomputable abbrev vt : Stmt := top 16
theorem qQ : FnScope ["ink", "words", "word", "hue"] ["ink"] (defScope vt) := by walk_at "sc"
noncomputable abbrev vK : Stmt := top 17
theorem uP : FnScope ["words", "ink", "ahead", "word"] ["words"] (defScope vK) := by walk_at "sc"
noncomputable abbrev vi : Stmt := top 18
theorem uo : FnScope ["text", "ink"] ["text"] (defScope vi) := by walk_at "sc"
noncomputable abbrev qf : Stmt := top 23
theorem VH : FnScope ["thing"] ["thing"] (defScope qf) := by walk_at "sc"
noncomputable abbrev qg : Stmt := top 24
theorem VI : FnScope ["thing"] ["thing"] (defScope qg) := by walk_at "sc"
noncomputable abbrev qh : Stmt := top 25
theorem VJ : FnScope ["wide", "high"] ["wide", "high"] (defScope qh) := by walk_at "sc"
noncomputable abbrev ji : Stmt := top 26
theorem Qo : FnScope ["thing", "wide"] ["thing", "wide"] (defScope ji) := by walk_at "sc"
noncomputable abbrev vL : Stmt := top 27
theorem uQ : FnScope ["thing", "wide"] ["thing"] (defScope vL) := by walk_at "sc"
noncomputable abbrev xS : Stmt := top 28
theorem jM : FnScope ["picture"] ["picture"] (defScope xS) := by walk_at "sc"
noncomputable abbrev qi : Stmt := top 29
theorem jN : FnScope ["row"] ["row"] (defScope qi) := by walk_at "sc"
noncomputable abbrev vj : Stmt := top 31
theorem uq : FnScope ["things", "found", "first", "place"] ["things"] (defScope vj) := by walk_at "sc"
noncomputable abbrev ub : Stmt := top 32
theorem qj : FnScope ["row", "inks"] ["row"] (defScope ub) := by walk_at "sc"
noncomputable abbrev xT : Stmt := top 34
theorem vV : FnScope ["many", "ink", "words"] ["many", "ink"] (defScope xT) := by walk_at "sc"
noncomputable abbrev x4 : Stmt := top 35
theorem ql : FnScope ["row"] ["row"] (defScope x4) := by walk_at "sc"
noncomputable abbrev uL : Stmt := top 36
theorem qR : FnScope ["picture", "rows"] ["picture"] (defScope uL) := by walk_at "sc"
noncomputable abbrev xU : Stmt := top 37
theorem vW : FnScope ["text", "many"] ["text"] (defScope xU) := by walk_at "sc"
noncomputable abbrev xV : Stmt := top 38
theorem vX : FnScope ["text", "inks", "part", "halves", "ink"] ["text"] (defScope xV) := by walk_at "sc"
noncomputable abbrev vM : Stmt := top 39
theorem uR : FnScope ["signs", "inks"] ["signs", "inks"] (defScope vM) := by walk_at "sc"
noncomputable abbrev xh : Stmt := top 40
theorem vm : FnScope ["paper", "rows", "high"] ["paper"] (defScope xh) := by walk_at "sc"
noncomputable abbrev vN : Stmt := top 41
theorem uS : FnScope ["paper", "picture"] ["paper"] (defScope vN) := by walk_at "sc"
noncomputable abbrev qm : Stmt := top 43
theorem jO : FnScope ["_law_script", "_law_k", "_law_cell", "_law_number"] ["_law_script", "_law_k"] (defScope qm) := by walk_at "sc"
noncomputable abbrev vO : Stmt := top 44
theorem Zc : FnScope ["_law_thing"] ["_law_thing"] (defScope vO) := by walk_at "sc"
noncomputable abbrev uc : Stmt := top 45
theorem qo : FnScope ["_law_cell", "_law_signs"] ["_law_cell"] (defScope uc) := by walk_at "sc"
noncomputable abbrev ud : Stmt := top 46
theorem Yi : FnScope ["_law_cell"] ["_law_cell"] (defScope ud) := by walk_at "sc"
noncomputable abbrev xW : Stmt := top 47
theorem vY : FnScope ["_law_script", "_law_at_here", "_law_wide", "_law_high", "_law_many", "_law_found", "_law_row", "_law_line", "_law_column", "_law_cell", "_law_ink"] ["_law_script", "_law_at_here"] (defScope xW) := by walk_at "sc"
noncomputable abbrev xi : Stmt := top 48
theorem vn : FnScope ["_law_picture_here", "_law_script", "_law_at_here", "_law_found", "_law_row", "_law_line", "_law_size_here"] ["_law_picture_here", "_law_script", "_law_at_here"] (defScope xi) := by walk_at "sc"
noncomputable abbrev x5 : Stmt := top 49
theorem qp : FnScope ["_law_ink", "_law_words"] ["_law_ink"] (defScope x5) := by walk_at "sc"
noncomputable abbrev x6 : Stmt := top 50
theorem qq : FnScope ["_law_line", "_law_parts", "_law_place", "_law_behind"] ["_law_line"] (defScope x6) := by walk_at "sc"
noncomputable abbrev vP : Stmt := top 51
theorem uT : FnScope ["_law_picture_here", "_law_found", "_law_line"] ["_law_picture_here"] (defScope vP) := by walk_at "sc"
noncomputable abbrev vk : Stmt := top 52
theorem ur : FnScope ["_law_picture_here", "_law_cell", "_law_at_here", "_law_place", "_law_row", "_law_some", "_law_other"] ["_law_picture_here", "_law_cell"] (defScope vk) := by walk_at "sc"
noncomputable abbrev xX : Stmt := top 53
theorem vZ : FnScope ["_law_thing", "error", "_law_kinds"] ["_law_thing"] (defScope xX) := by walk_at "sc"
noncomputable abbrev uM : Stmt := top 54
theorem qS : FnScope ["_law_found", "_law_due", "_law_row"] ["_law_found", "_law_due"] (defScope uM) := by walk_at "sc"
noncomputable abbrev VL : Stmt := top 55
theorem Qp : FnScope ["_law_script", "_law_first", "_law_second", "_law_k", "_law_picture_here", "_law_handed", "_law_told"] ["_law_script"] (defScope VL) := by walk_at "sc"
structure Txt (P : Program) (w : World) (K : PySem.W.Frag) (mg : Str → Option Value) (bw sw hf : Addr) : Prop where
  n_len : mg "len" = none
  n_range : mg "range" = none
  n_int : mg "int" = none
  n_bool : mg "bool" = none
  n_str : mg "str" = none
  n_list : mg "list" = none
  n_tuple : mg "tuple" = none
  n_isinstance : mg "isinstance" = none
  n_ord : mg "ord" = none
  n_all : mg "all" = none
  n_min : mg "min" = none
  n_zip : mg "zip" = none
  n_enumerate : mg "enumerate" = none
  g_LAST_INK : ∃ t, mg "LAST_INK" = some (.int 511 t)
  g_WIDEST : ∃ t, mg "WIDEST" = some (.int 24 t)
  g_HIGHEST : ∃ t, mg "HIGHEST" = some (.int 12 t)
  g_PERCENT_SIGN : ∃ t, mg "PERCENT_SIGN" = some (.int 37 t)
  g_BITS_BY_WORD : mg "BITS_BY_WORD" = some (.ref bw)
  g_STEPS_BY_WORD : mg "STEPS_BY_WORD" = some (.ref sw)
  g_HUE_FIGURES : mg "HUE_FIGURES" = some (.ref hf)
  d_bw : DS P w K bw bitsD
  d_sw : DS P w K sw stepsD
  t_hf : ∃ o, K.lookup hf = some o ∧ o.cls = .type "tuple" ∧ o.dict = none
  q_hf : ∀ Z : Hp, SqT K Z hf (figs.map V.str)
structure TxtX (K : PySem.W.Frag) (mg : Str → Option Value) (se bp bs bi ba un : Addr) : Prop where
  c_ScreenError : mg "ScreenError" = some (.ref se)
  c_BadPicture : mg "BadPicture" = some (.ref bp)
  c_BadSize : mg "BadSize" = some (.ref bs)
  c_BadInk : mg "BadInk" = some (.ref bi)
  c_BadPaper : mg "BadPaper" = some (.ref ba)
  c_Unlike : mg "Unlike" = some (.ref un)
  n_ve : mg "ValueError" = none
  x_BadPicture : XMake K bp
  x_BadInk : XMake K bi
  x_BadPaper : XMake K ba
  y_BadPicture : XClass K bp
  y_BadInk : XClass K bi
  y_BadPaper : XClass K ba
  p_se : PySem.W.exmOne K (.ref bp) (.ref se) = some true
  p_bp : PySem.W.kitOne K (.ref bp) (.ref bp) = some true
  p_bs : PySem.W.kitOne K (.ref bp) (.ref bs) = some false
  p_bi : PySem.W.kitOne K (.ref bp) (.ref bi) = some false
  p_ba : PySem.W.kitOne K (.ref bp) (.ref ba) = some false
  p_un : PySem.W.kitOne K (.ref bp) (.ref un) = some false
  p_ve : PySem.W.kitOne K (.ref bp) (.type "ValueError") = some true
  i_se : PySem.W.exmOne K (.ref bi) (.ref se) = some true
  i_bp : PySem.W.kitOne K (.ref bi) (.ref bp) = some false
  i_bs : PySem.W.kitOne K (.ref bi) (.ref bs) = some false
  i_bi : PySem.W.kitOne K (.ref bi) (.ref bi) = some true
  i_ba : PySem.W.kitOne K (.ref bi) (.ref ba) = some false
  i_un : PySem.W.kitOne K (.ref bi) (.ref un) = some false
  i_ve : PySem.W.kitOne K (.ref bi) (.type "ValueError") = some true
  a_se : PySem.W.exmOne K (.ref ba) (.ref se) = some true
  a_bp : PySem.W.kitOne K (.ref ba) (.ref bp) = some false
  a_bs : PySem.W.kitOne K (.ref ba) (.ref bs) = some false
  a_bi : PySem.W.kitOne K (.ref ba) (.ref bi) = some false
  a_ba : PySem.W.kitOne K (.ref ba) (.ref ba) = some true
  a_un : PySem.W.kitOne K (.ref ba) (.ref un) = some false
  a_ve : PySem.W.kitOne K (.ref ba) (.type "ValueError") = some true
noncomputable def wholeD (a b : Int) : PyData → Bool
  | .int i => decide (a ≤ i) && decide (i ≤ b)
  | _ => false
noncomputable def inkD : PyData → Bool := wholeD 0 511
noncomputable def signD : PyData → Bool
  | .str z => decide (z.length = 1) && (decide (32 ≤ z.cps.getD 0 0) && decide (z.cps.getD 0 0 ≤ 126)) && decide (z.cps.getD 0 0 ≠ 37)
  | _ => false
noncomputable def cellD : PyData → Bool
  | .tuple [a, b] => signD a && inkD b
  | _ => false
noncomputable def rowB (w : Int) : PyData → Bool
  | .list ds => decide ((ds.length : Int) = w) && ds.all cellD
  | _ => false
noncomputable def sizeB (a b : PyData) : Bool := wholeD 1 24 a && wholeD 1 12 b
noncomputable def picB : PyData → Bool
  | .list (.list ds :: rs) => sizeB (.int ds.length) (.int (rs.length + 1 : Nat)) && (PyData.list ds :: rs).all (rowB ds.length)
  | _ => false
mutual
noncomputable def smD : PyData → Bool
  | .str z => decide (z.length ≤ 1000)
  | .list ds => decide (ds.length ≤ 1000) && vv ds
  | .tuple ds => decide (ds.length ≤ 1000) && vv ds
  | _ => true
noncomputable def vv : List PyData → Bool
  | [] => true
  | d :: ds => smD d && vv ds
end
theorem qr : ∀ {ds : List PyData} {d : PyData}, vv ds = true → d ∈ ds → smD d = true
  | x :: ds, d, h, m => by
    simp only [vv, Bool.and_eq_true] at h
    rcases List.mem_cons.1 m with rfl | m
    · exact h.1
    · exact qr h.2 m
noncomputable def qJ : SpW := fun ws O R => ∃ d a b, ws = [.d d, .d (.int a), .d (.int b)] ∧ R (.d (.bool (wholeD a b d))) O
noncomputable def VM : SpW := fun ws O R => ∃ d, ws = [.d d] ∧ R (.d (.bool (inkD d))) O
noncomputable def Yj : SpW := fun ws O R => ∃ d, ws = [.d d] ∧ smD d = true ∧ R (.d (.bool (signD d))) O
noncomputable def Yk : SpW := fun ws O R => ∃ d, ws = [.d d] ∧ smD d = true ∧ R (.d (.bool (cellD d))) O
noncomputable def Yl : SpW := fun ws O R => ∃ a b, ws = [.d a, .d b] ∧ R (.d (.bool (sizeB a b))) O
noncomputable def VN : SpW := fun ws O R => ∃ d w, ws = [.d d, .d (.int w)] ∧ smD d = true ∧ R (.d (.bool (rowB w d))) O
noncomputable def Zs : SpW := fun ws O R => ∃ d, ws = [.d d] ∧ smD d = true ∧ R (.d (.bool (picB d))) O
theorem zcH (O : OM) (ds : List PyData) (g : PyData → Bool) : zq O (.d (.list ((ds.map W.d).filterMap fun w => match w with | .d d => some (.bool (g d)) | _ => none))) = some ((ds.map g).map fun b => W.d (.bool b)) := by
  rw [yU ds W.d _ (fun d => PyData.bool (g d)) (fun _ => rfl)]
  show some (List.map W.d _) = _
  rw [List.map_map, List.map_map]
  rfl
theorem all_map {α : Type} (ds : List α) (g : α → Bool) : (ds.map g).all id = ds.all g := by rw [List.all_map]; rfl
theorem yE {O : OM} {ds : List PyData} : y7 O (.d (.list ds)) = some ds.length := by simp [y7, yp, zq]
theorem Zt {α : Type} {x : α} {l : List α} : atI (x :: l) 0 = some x := (yu (j := 0) (xs := x :: l) rfl : atI (x :: l) ((0 : Nat) : Int) = some x)
theorem zcI (a c : Nat) : (#[a] : Array Nat) ≤ #[c] ↔ a ≤ c := by
  rw [← Array.not_lt, ← Array.lt_toList]
  have := Xx c a
  simp only [decide_eq_decide] at this
  rw [show ((#[c] : Array Nat).toList < (#[a] : Array Nat).toList) ↔ c < a from this]
  omega
theorem zcJ (a c : Nat) : (#[a] : Array Nat) < #[c] ↔ a < c := by
  rw [← Array.lt_toList]
  have := Xx a c
  simp only [decide_eq_decide] at this
  exact this
theorem kn {z : Str} (h : z.length = 1) : ∃ c, z = ⟨#[c]⟩ := by
  obtain ⟨⟨l⟩⟩ := z
  obtain ⟨c, rfl⟩ := List.length_eq_one_iff.1 (show l.length = 1 from h)
  exact ⟨c, rfl⟩
section
variable {P : Program} {w : World} {K : PySem.W.Frag} {mg : Str → Option Value} {base : Heap} {f : Addr} {fd : FuncData} {bw sw hf : Addr}
theorem Y4 (F : Fun K "is_whole" "is_whole" uK f fd) (T : Txt P w K mg bw sw hf) : FnOk P w K mg base CX0 1 f fd ["thing", "least", "most"] (zb K qJ) := by
  apply F.okV Y3 (by rintro _ _ _ ⟨d, a, b, rfl, _⟩; rfl) (fun cdv A outer sh H E hr => (zf (zk (y9 (zh (yA (K := K) rfl) (by rfl) T.n_isinstance (by rfl) (QA.pa (qc (pv 0) (qc (zU (v := .ty "int") (u := .type "int") rfl T.n_int rfl rfl) qn)))) (y9 (V6 (zh (yA (K := K) rfl) (by rfl) T.n_isinstance (by rfl) (QA.pa (qc (pv 0) (qc (zU (v := .ty "bool") (u := .type "bool") rfl T.n_bool rfl rfl) qn))))) (x9 (ZE JZ JZ (pv 1) (pv 0) (pv 2))))))))
  · walk_at "ref"
  rintro _ O R ⟨d, a, b, rfl, h⟩
  cases d with
  | int i =>
    walk_at "wd"
    simp only [wholeD] at h
    split
    · rename_i q
      rw [decide_eq_true q, Bool.true_and] at h
      exact .inl h
    · rename_i q
      rw [decide_eq_false q, Bool.false_and] at h
      exact .inl h
  | _ =>
    walk_at "wd"
    exact .inl h
theorem Qq (F : Fun K "is_ink" "is_ink" jh f fd) (T : Txt P w K mg bw sw hf) (zeB : Cal P w K mg base 1 "is_whole" [] (zb K qJ)) : FnOk P w K mg base CX0 2 f fd ["thing"] (zb K VM) := by
  apply F.okV Qn (by rintro _ _ _ ⟨d, rfl, _⟩; rfl) (fun cdv A outer sh H E hr => (zf (zk (zr zeB (hr.mono (by decide)) rfl (QA.pa (qc (pv 0) (qc za (qc (jx rfl T.g_LAST_INK) qn))))))))
  · walk_at "ref"
  rintro _ O R ⟨d, rfl, h⟩
  walk_at "wd"
  exact ⟨d, 0, 511, rfl, .inl h⟩
theorem VO (F : Fun K "is_sign" "is_sign" qf f fd) (T : Txt P w K mg bw sw hf) : FnOk P w K mg base CX0 1 f fd ["thing"] (zb K Yj) := by
  apply F.okV VH (by rintro _ _ _ ⟨d, rfl, _⟩; rfl) (fun cdv A outer sh H E hr => (zc (zI (PW.pt (xf (yj (yi (zh (yA (K := K) rfl) (by rfl) T.n_isinstance (by rfl) (QA.pa (qc (pv 0) (qc (zU (v := .ty "str") (u := .type "str") rfl T.n_str rfl rfl) qn)))))) (y8 (zx vp (zh ZN (by rfl) T.n_len (by rfl) (QA.pa (qc (pv 0) qn))) za (zD _))))) (zf (zk yR)) zw)
      (zf (zk (y9 (ZE kS kS zm (pv 0) zm) (x9 (qu vp (zh U5 (by rfl) T.n_ord (by rfl) (QA.pa (qc (pv 0) qn))) (jx rfl T.g_PERCENT_SIGN) (zD _))))))))
  · walk_at "ref"
  rintro _ O R ⟨d, rfl, sm, h⟩
  cases d with
  | str z =>
    walk_at "wd"
    have hl : z.length ≤ 1000 := of_decide_eq_true sm
    refine ⟨by rw [sizeLine_eq]; omega, ?_⟩
    by_cases hz : z.length = 1
    · obtain ⟨c, rfl⟩ := kn hz
      have e1 : (Str.ofString " ").cps = #[32] := by decide +kernel
      have e2 : (Str.ofString "~").cps = #[126] := by decide +kernel
      have ec : (⟨#[c]⟩ : Str).cps = #[c] := rfl
      have e3 : (#[c] : Array Nat)[0]?.getD 0 = c := rfl
      have hs : signD (.str ⟨#[c]⟩) = ((decide (32 ≤ c) && decide (c ≤ 126)) && decide (c ≠ 37)) := rfl
      rw [hs] at h
      rw [e1, e2, ec, e3]
      simp only [zcI, zcJ]
      split
      · rename_i q
        rw [decide_eq_true q.2, Bool.true_and] at h
        by_cases q2 : c ≤ 126
        · refine .inr ⟨q2, hz, ?_⟩
          rw [decide_eq_true q2, Bool.true_and] at h
          have : (!decide ((c : Int) = 37)) = decide (c ≠ 37) := by
            by_cases q3 : c = 37
            · subst q3; rfl
            · rw [decide_eq_true q3, decide_eq_false (by omega)]; rfl
          rw [this]
          exact .inl h
        · rw [decide_eq_false q2, Bool.false_and] at h
          exact .inl ⟨by omega, .inl h⟩
      · rename_i q
        have : ¬ 32 ≤ c := fun z => q ⟨by rw [hz]; rfl, z⟩
        rw [decide_eq_false this, Bool.false_and, Bool.false_and] at h
        exact .inl h
    · rw [if_neg (fun q => hz (by omega))]
      have hs : signD (.str z) = false := by simp only [signD, decide_eq_false hz, Bool.false_and]
      rw [hs] at h
      exact .inl h
  | _ =>
    walk_at "wd"
    exact .inl h
theorem VP (F : Fun K "is_cell" "is_cell" qg f fd) (T : Txt P w K mg bw sw hf) (zez : Cal P w K mg base 1 "is_sign" [] (zb K Yj)) (zex : Cal P w K mg base 2 "is_ink" [] (zb K VM)) : FnOk P w K mg base CX0 3 f fd ["thing"] (zb K Yk) := by
  apply F.okV VI (by rintro _ _ _ ⟨d, rfl, _⟩; rfl) (fun cdv A outer sh H E hr => (zc (zI (PW.pt (xf (yj (yi (zh (yA (K := K) rfl) (by rfl) T.n_isinstance (by rfl) (QA.pa (qc (pv 0) (qc (zU (v := .ty "tuple") (u := .type "tuple") rfl T.n_tuple rfl rfl) qn)))))) (y8 (zx vp (zh (z9 (K := K) rfl) (by rfl) T.n_len (by rfl) (QA.pa (qc (pv 0) qn))) za (zD _))))) (zf (zk yR)) zw)
      (zf (zk (y9 (zr zez (hr.mono (by decide)) rfl (QA.pa (qc (zB (yz (K := K) rfl) (pv 0) za (fun _ _ => rfl)) qn))) (x9 (zr zex (hr.mono (by decide)) rfl (QA.pa (qc (zB (yz (K := K) rfl) (pv 0) za (fun _ _ => rfl)) qn)))))))))
  · walk_at "ref"
  rintro _ O R ⟨d, rfl, sm, h⟩
  cases d with
  | tuple ds =>
    walk_at "wd"
    refine ⟨ds.length, rfl, ?_⟩
    match ds, sm, h with
    | [a, b], sm, h =>
      rw [if_pos (show (([a, b] : List PyData).length : Int) = 2 from rfl)]
      have sm2 : smD a = true := by
        simp only [smD, vv, Bool.and_eq_true] at sm
        exact sm.2.1
      refine ⟨a, rfl, a, rfl, sm2, ?_⟩
      have hc : cellD (.tuple [a, b]) = (signD a && inkD b) := rfl
      rw [hc] at h
      cases hs : signD a with
      | false =>
        rw [hs, Bool.false_and] at h
        exact .inl ⟨rfl, .inl h⟩
      | true =>
        rw [hs, Bool.true_and] at h
        exact .inr ⟨rfl, b, rfl, b, rfl, .inl h⟩
    | [], sm, h => exact .inl h
    | [a], sm, h => exact .inl h
    | a :: b :: c :: ds, sm, h =>
      rw [if_neg (by simp only [List.length_cons]; omega)]
      exact .inl h
  | _ =>
    walk_at "wd"
    exact .inl h
theorem VQ (F : Fun K "is_size" "is_size" qh f fd) (T : Txt P w K mg bw sw hf) (zeB : Cal P w K mg base 1 "is_whole" [] (zb K qJ)) : FnOk P w K mg base CX0 2 f fd ["wide", "high"] (zb K Yl) := by
  apply F.okV VJ (by rintro _ _ _ ⟨a, b, rfl, _⟩; rfl) (fun cdv A outer sh H E hr => (zf (zk (y9 (zr zeB (hr.mono (by decide)) rfl (QA.pa (qc (pv 0) (qc za (qc (jx rfl T.g_WIDEST) qn))))) (x9 (zr zeB (hr.mono (by decide)) rfl (QA.pa (qc (pv 1) (qc za (qc (jx rfl T.g_HIGHEST) qn))))))))))
  · walk_at "ref"
  rintro _ O R ⟨a, b, rfl, h⟩
  walk_at "wd"
  refine ⟨a, 1, 24, rfl, ?_⟩
  unfold sizeB at h
  cases hs : wholeD 1 24 a with
  | false =>
    rw [hs, Bool.false_and] at h
    exact .inl ⟨rfl, .inl h⟩
  | true =>
    rw [hs, Bool.true_and] at h
    exact .inr ⟨rfl, b, 1, 12, rfl, .inl h⟩
theorem Qr (F : Fun K "is_row" "is_row" ji f fd) (T : Txt P w K mg bw sw hf) (zew : Cal P w K mg base 3 "is_cell" [] (zb K Yk)) : FnOk P w K mg base CX0 4 f fd ["thing", "wide"] (zb K VN) := by
  apply F.okV Qo (by rintro _ _ _ ⟨d, a, rfl, _⟩; rfl) (fun cdv A outer sh H E hr => (zc (zI (PW.pt (xf (yj (yi (zh (yA (K := K) rfl) (by rfl) T.n_isinstance (by rfl) (QA.pa (qc (pv 0) (qc (zU (v := .ty "list") (u := .type "list") rfl T.n_list rfl rfl) qn)))))) (y8 (zx vp (zh (z9 (K := K) rfl) (by rfl) T.n_len (by rfl) (QA.pa (qc (pv 0) qn))) (pv 1) (zD _))))) (zf (zk yR)) zw)
      (zf (zk (zh (jC (K := K) rfl rfl) (by rfl) T.n_all (by rfl) (QA.pa (qc (yD (yO (N := ["cell"]) (n := 1) (js := [])) rfl (zG (K := K) rfl (pv 0)) (fun _ _ _ _ => (zo (i := 0) (show List.Nodup (["cell"] : List Str) by decide +kernel) rfl (Or.inl rfl))) (fun _ _ _ _ => zV) (fun _ _ _ _ => (zr zew (hr.mono (by decide)) rfl (QA.pa (qc (pv 0) qn))))) qn)))))))
  · walk_at "ref"
  rintro _ O R ⟨d, a, rfl, sm, h⟩
  cases d with
  | list ds =>
    walk_at "wd"
    simp only [smD, Bool.and_eq_true, decide_eq_true_eq] at sm
    have hr : rowB a (.list ds) = (decide ((ds.length : Int) = a) && ds.all cellD) := rfl
    rw [hr] at h
    refine ⟨ds.length, yE, ?_⟩
    split
    · rename_i q
      rw [decide_eq_true q, Bool.true_and] at h
      refine ⟨ds.map .d, rfl, by simpa using sm.1, fun w => match w with | .d d => some (.bool (cellD d)) | _ => none, ?_, ds.map cellD, zcH O ds cellD, ?_⟩
      · intro w hw us hu
        obtain ⟨u, rfl⟩ := List.length_eq_one_iff.1 hu
        obtain ⟨d, hd, rfl⟩ := List.mem_map.1 hw
        exact ⟨rfl, rfl, d, rfl, qr sm.2 hd, rfl, rfl⟩
      · rw [all_map]
        exact .inl h
    · rename_i q
      rw [decide_eq_false q, Bool.false_and] at h
      exact .inl h
  | _ =>
    walk_at "wd"
    exact .inl h
theorem Zd (F : Fun K "is_picture" "is_picture" vL f fd) (T : Txt P w K mg bw sw hf) (zeA : Cal P w K mg base 2 "is_size" [] (zb K Yl)) (zey : Cal P w K mg base 4 "is_row" [] (zb K VN)) : FnOk P w K mg base CX0 5 f fd ["thing"] (zb K Zs) := by
  have nd := uQ.nd
  apply F.okV uQ (by rintro _ _ _ ⟨d, rfl, _⟩; rfl) (fun cdv A outer sh H E hr => (zc (zI (PW.pt (xf (yj (yi (zh (yA (K := K) rfl) (by rfl) T.n_isinstance (by rfl) (QA.pa (qc (pv 0) (qc (zU (v := .ty "list") (u := .type "list") rfl T.n_list rfl rfl) qn)))))) (xf (zx xq (zh (z9 (K := K) rfl) (by rfl) T.n_len (by rfl) (QA.pa (qc (pv 0) qn))) za (zD _)) (y8 (yj (yi (zh (yA (K := K) rfl) (by rfl) T.n_isinstance (by rfl) (QA.pa (qc (zB (z7 (K := K) rfl) (pv 0) za (fun _ _ => rfl)) (qc (zU (v := .ty "list") (u := .type "list") rfl T.n_list rfl rfl) qn)))))))))) (zf (zk yR)) zw)
      (zc (zp (i := 1) nd rfl (Or.inr rfl) (zh (z9 (K := K) rfl) (by rfl) T.n_len (by rfl) (QA.pa (qc (zB (z7 (K := K) rfl) (pv 0) za (fun _ _ => rfl)) qn))))
      (zf (zk (y9 (zr zeA (hr.mono (by decide)) rfl (QA.pa (qc (pv 1) (qc (zh (z9 (K := K) rfl) (by rfl) T.n_len (by rfl) (QA.pa (qc (pv 0) qn))) qn)))) (x9 (zh (jC (K := K) rfl rfl) (by rfl) T.n_all (by rfl) (QA.pa (qc (yD (yO (N := ["row", "wide"]) (n := 1) (js := [1])) rfl (zG (K := K) rfl (pv 0)) (fun _ _ _ _ => (zo (i := 0) (show List.Nodup (["row", "wide"] : List Str) by decide +kernel) rfl (Or.inl rfl))) (fun _ _ _ _ => zV) (fun _ _ _ _ => (zr zey (hr.mono (by decide)) rfl (QA.pa (qc (pv 0) (qc (pv 1) qn)))))) qn))))))))))
  · walk_at "ref"
  rintro _ O R ⟨d, rfl, sm, h⟩
  cases d with
  | list ds =>
    simp only [smD, Bool.and_eq_true, decide_eq_true_eq] at sm
    refine zZ (fun ρ' O' => ρ' = [some (.d (.list ds)), none] ∧ O = O' ∧ ∃ es rs, ds = .list es :: rs) (fun R1 hR1 => ?_) ?_
    · walk_at "wd"
      refine ⟨ds.length, yE, ?_⟩
      match ds, sm, h, hR1 with
      | [], sm, h, hR1 =>
        rw [if_pos (show ([] : List PyData).length = 0 from rfl)]
        exact .inl h
      | d :: rs, sm, h, hR1 =>
        rw [if_neg (by simp)]
        refine ⟨_, rfl, .d d, Zt, ?_⟩
        cases d with
        | list es =>
          show if true = true then _ else _
          rw [if_pos rfl]
          exact hR1 _ _ ⟨rfl, rfl, es, rs, rfl⟩
        | _ => exact .inl h
    rintro _ _ ⟨rfl, rfl, es, rs, rfl⟩
    refine zZ (fun ρ' O' => ρ' = [some (.d (.list (.list es :: rs))), some (.d (.int es.length))] ∧ O = O') (fun R1 hR1 => ?_) ?_
    · walk_at "wd"
      exact ⟨_, rfl, _, Zt, _, yE, hR1 _ _ ⟨rfl, rfl⟩⟩
    rintro _ _ ⟨rfl, rfl⟩
    walk_at "wd"
    refine ⟨_, yE, _, _, rfl, ?_⟩
    have hp : picB (.list (.list es :: rs)) = (sizeB (.int es.length) (.int (rs.length + 1 : Nat)) && (PyData.list es :: rs).all (rowB es.length)) := rfl
    rw [hp] at h
    show _ ∧ _ ∨ _
    rw [List.length_cons]
    cases hs : sizeB (.int es.length) (.int (rs.length + 1 : Nat)) with
    | false =>
      rw [hs, Bool.false_and] at h
      exact .inl ⟨rfl, .inl h⟩
    | true =>
      rw [hs, Bool.true_and] at h
      refine .inr ⟨rfl, (PyData.list es :: rs).map .d, rfl, by simpa using sm.1, fun w => match w with | .d d => some (.bool (rowB es.length d)) | _ => none, ?_, (PyData.list es :: rs).map (rowB es.length), zcH O _ _, ?_⟩
      · intro w hw us hu
        obtain ⟨u, rfl⟩ := List.length_eq_one_iff.1 hu
        obtain ⟨d, hd, rfl⟩ := List.mem_map.1 hw
        exact ⟨rfl, rfl, d, _, rfl, qr sm.2 hd, rfl, rfl⟩
      · rw [all_map]
        exact .inl h
  | _ =>
    refine zZ (fun ρ' O' => False) (fun R1 hR1 => ?_) ?_
    · walk_at "wd"
      exact .inl h
    · exact fun _ _ z => z.elim
end
structure Ds (O : OM) (bs : List Addr) (rows : List (List PyData)) : Prop where
  pr : Paired (fun (b : Addr) (ds : List PyData) => O b = some (.lst (ds.map W.d))) bs rows
  nd : bs.Nodup
structure Dp (O : OM) (p : Addr) (bs : List Addr) (rows : List (List PyData)) : Prop where
  at_ : O p = some (.lst (bs.map W.own))
  ds : Ds O bs rows
  out : p ∉ bs
theorem Ds.nil {O : OM} : Ds O [] [] := ⟨.nil, List.nodup_nil⟩
theorem Ds.mem {O : OM} {bs : List Addr} {rows : List (List PyData)} (h : Ds O bs rows) {b : Addr} (m : b ∈ bs) : ∃ ds : List PyData, O b = some (.lst (ds.map W.d)) := by
  obtain ⟨i, hi⟩ := List.mem_iff_getElem?.1 m
  obtain ⟨ds, _, q⟩ := Paired.getP h.pr hi
  exact ⟨ds, q⟩
theorem Ds.far {O : OM} {bs : List Addr} {rows : List (List PyData)} (h : Ds O bs rows) {p : Addr} (hp : p ∉ bs) (x : OO) : Ds (updO O p x) bs rows := by
  obtain ⟨pr, nd⟩ := h
  refine ⟨?_, nd⟩
  clear nd
  induction pr with
  | nil => exact .nil
  | cons a b ih => exact .cons (by rw [zi (fun z => hp (by rw [z]; exact List.mem_cons_self))]; exact a) (ih fun z => hp (List.mem_cons_of_mem _ z))
theorem Ds.new {O : OM} {bs : List Addr} {rows : List (List PyData)} (h : Ds O bs rows) {p : Addr} (hp : O p = none) : p ∉ bs := fun m => by
  obtain ⟨ds, q⟩ := h.mem m
  rw [hp] at q
  cases q
theorem Ds.snoc {O : OM} {bs : List Addr} {rows : List (List PyData)} (h : Ds O bs rows) {p : Addr} (hp : O p = none) (ds : List PyData) : Ds (updO O p (.lst (ds.map W.d))) (bs ++ [p]) (rows ++ [ds]) := by
  have hn := h.new hp
  refine ⟨Paired.appP (h.far hn _).pr (.cons zj .nil), ?_⟩
  rw [List.nodup_append]
  refine ⟨h.nd, by simp, fun a ha b hb => ?_⟩
  cases List.mem_singleton.1 hb
  exact fun e => hn (e ▸ ha)
theorem Ds.full {O : OM} {bs : List Addr} {rows : List (List PyData)} (h : Ds O bs rows) {p : Addr} (hp : O p = none) : Dp (updO O p (.lst (bs.map W.own))) p bs rows := ⟨zj, h.far (h.new hp) _, h.new hp⟩
theorem Dp.set {O : OM} {p : Addr} {bs : List Addr} {rows : List (List PyData)} (h : Dp O p bs rows) {i : Nat} {b : Addr} (hb : bs[i]? = some b) (ds : List PyData) : Dp (updO O b (.lst (ds.map W.d))) p bs (rows.set i ds) := by
  have mb : b ∈ bs := List.mem_of_getElem? hb
  refine ⟨?_, ⟨?_, h.ds.nd⟩, h.out⟩
  · rw [zi (fun z => h.out (by rw [z]; exact mb))]
    exact h.at_
  · obtain ⟨pr, nd⟩ := h.ds
    clear h mb
    induction pr generalizing i with
    | nil => cases hb
    | cons a c ih =>
      rename_i x y xs ys
      obtain ⟨n1, n2⟩ := List.nodup_cons.1 nd
      cases i with
      | zero =>
        cases hb
        exact .cons zj ((Ds.far (O := O) ⟨c, n2⟩ n1 _).pr)
      | succ i =>
        have hx : x ≠ b := fun z => n1 (by rw [z]; exact List.mem_of_getElem? (by simpa using hb))
        exact .cons (by rw [zi hx]; exact a) (ih (i := i) (by simpa using hb) n2)
theorem Ds.items {O : OM} {bs : List Addr} {rows : List (List PyData)} (h : Ds O bs rows) : xz O (bs.map W.own) = some (rows.map PyData.list) := by
  have pr := h.pr
  clear h
  induction pr with
  | nil => rfl
  | cons a b ih =>
    rename_i x y xs ys
    have e : qG O (.own x) = some (.list y) := by
      simp only [qG, show O x = _ from a, zY]
      rfl
    rw [List.map_cons, xz, e, ih]
    rfl
noncomputable def pd (rows : List (List PyData)) : PyData := .list (rows.map .list)
theorem Dp.deep {O : OM} {p : Addr} {bs : List Addr} {rows : List (List PyData)} (h : Dp O p bs rows) : xA O (.own p) = some (pd rows) := by
  simp only [xA, h.at_, h.ds.items]
  rfl
noncomputable def VR (bp : Addr) : SpX := fun ws O R Y => ∃ d, ws = [.d d] ∧ smD d = true ∧ (picB d = true → R (.d .none) O) ∧ (picB d = false → Y bp O)
noncomputable def Ym : SpW := fun ws O R => ∃ ns : List Int, ∃ k : Int, ws = [.d (.list (ns.map .int)), .d (.int k)] ∧ 0 ≤ k ∧ k ≤ 2000 ∧ ∀ n : Int, 0 ≤ n → n ≤ 333334 → R (.d (.int n)) O
noncomputable def ko : SpW := fun ws O R => ∃ i : Int, ws = [.d (.int i)] ∧ R (.d (.bool true)) O
noncomputable def Yn : SpW := fun ws O R => ∃ c : Int, ws = [.d (.int c)] ∧ 0 ≤ c ∧ ∀ z : Str, signD (.str z) = true → R (.d (.str z)) O
noncomputable def Yo : SpW := fun ws O R => ∃ c : Int, ws = [.d (.int c)] ∧ 0 ≤ c ∧ ∀ w h : Int, 1 ≤ w → w ≤ 24 → 1 ≤ h → h ≤ 12 → R (.d (.tuple [.int w, .int h])) O
theorem Yp {O : OM} {ds : List PyData} : zq O (.d (.list ds)) = some (ds.map W.d) := rfl
theorem ut {O : OM} {ds : List PyData} : vC O (.d (.list ds)) = some ds := by simp only [vC, yp, zq, Option.bind_some, zY]
theorem Qs {O : OM} {rows : List (List PyData)} : y7 O (.d (pd rows)) = some rows.length := by unfold pd; rw [yE, List.length_map]
theorem XN {O : OM} {rows : List (List PyData)} : zq O (.d (pd rows)) = some ((rows.map PyData.list).map W.d) := rfl
theorem XO {O : OM} {rows : List (List PyData)} : vC O (.d (pd rows)) = some (rows.map PyData.list) := ut
theorem Y5 (l : List Int) : SeqAt.shaped (.list (l.map PyData.int)) = true ∧ PyData.eqv (.list (l.map PyData.int)) (.list (l.map PyData.int)) = true := by
  refine Vl fun d hd => ?_
  obtain ⟨i, _, rfl⟩ := List.mem_map.1 hd
  exact ⟨rfl, by show PyData.depth (.int i) ≤ 50; simp [PyData.depth], by simp [PyData.eqv]⟩
section
variable {P : Program} {w : World} {K : PySem.W.Frag} {mg : Str → Option Value} {base : Heap} {f : Addr} {fd : FuncData} {se bp bs bi ba un : Addr} {bw sw hf : Addr}
theorem jP (F : Fun K "need_picture" "need_picture" xS f fd) (T : Txt P w K mg bw sw hf) (X : TxtX K mg se bp bs bi ba un) (c_is_picture : Cal P w K mg base 5 "is_picture" [] (zb K Zs)) : FnOk P w K mg base (CX1 P w) 6 f fd ["picture"] (zS K (VR bp)) := by
  apply F.okXV jM (by rintro _ _ _ _ ⟨d, rfl, _⟩; rfl) (fun cdv A outer sh H E hr => (zf (zI (yj (yi (zr c_is_picture (hr.mono (by decide)) rfl (QA.pa (qc (pv 0) qn))))) (zf (vB xm X.x_BadPicture rfl rfl X.c_BadPicture (QA.pa (qc zm qn)))) zw)))
  · walk_at "ref"
  rintro _ O R Y ⟨d, rfl, sm, h1, h2⟩
  walk_at "wd"
  refine ⟨d, rfl, sm, ?_⟩
  cases hp : picB d with
  | true => exact .inl (h1 hp)
  | false => exact h2 hp
theorem Qt (F : Fun K "_law_at" "_law_at" qm f fd) (T : Txt P w K mg bw sw hf) : FnOk P w K mg base CX0 1 f fd ["_law_script", "_law_k"] (zb K Ym) := by
  have nd := jO.nd
  apply F.okV jO (by rintro _ _ _ ⟨a, b, rfl, _⟩; rfl) (fun cdv A outer sh H E hr => (zc (zp (i := 2) nd rfl (Or.inl rfl) za)
      (zc (zI (zx Zj (zh (z9 (K := K) rfl) (by rfl) T.n_len (by rfl) (QA.pa (qc (pv 0) qn))) za (zD _)) (zf (zp (i := 2) nd rfl (Or.inl rfl) (zB (z7 (K := K) rfl) (pv 0) (ze zz (pv 1) (zh (z9 (K := K) rfl) (by rfl) T.n_len (by rfl) (QA.pa (qc (pv 0) qn)))) (fun _ _ => rfl)))) zw)
      (zc (zp (i := 3) nd rfl (Or.inl rfl) (ze zz (ze yM (ze zE (ze zE (ze zE (ze zz (pv 2) za) (ze yM (ze yM za (pv 1)) (pv 1))) (ze yM za (pv 1))) za) za) za))
      (zf (zk (ze zO (ze zz (ze yM (pv 3) (pv 3)) za) za)))))))
  · walk_at "ref"
  rintro _ O R ⟨ns, k, rfl, k0, k1, h⟩
  refine x3 (fun ρ' O' => ∃ c : Int, ρ' = [some (.d (.list (ns.map .int))), some (.d (.int k)), some (.d (.int c)), none] ∧ O = O') (fun R1 hR1 => ?_) ?_
  · walk_at "wd"
    refine ⟨ns.length, by rw [yE, List.length_map], ?_⟩
    split
    · rename_i q
      refine ⟨ns.length, by rw [yE, List.length_map], q, _, rfl, ?_⟩
      obtain ⟨j, hj⟩ := Int.eq_ofNat_of_zero_le (Int.emod_nonneg k (show (ns.length : Int) ≠ 0 by omega))
      have q1 : j < ns.length := by
        have := Int.emod_lt_of_pos k (show (0 : Int) < ns.length by omega)
        omega
      rw [hj]
      refine ⟨.d (.int ns[j]), yu ?_, hR1 _ _ ⟨_, rfl, rfl⟩⟩
      rw [List.getElem?_map, List.getElem?_map, List.getElem?_eq_getElem q1]
      rfl
    · exact hR1 _ _ ⟨0, rfl, rfl⟩
  rintro _ _ ⟨c, rfl, rfl⟩
  walk_at "wd"
  have k2 : 0 ≤ k * k := Int.mul_nonneg k0 k0
  have k3 : k * k ≤ 2000 * 2000 := Int.mul_le_mul k1 k1 k0 (by omega)
  have e31 : 31 * k * k = 31 * (k * k) := by rw [Int.mul_assoc]
  have c1 := Int.emod_nonneg c (show (1000003 : Int) ≠ 0 by decide)
  have c2 := Int.emod_lt_of_pos c (show (0 : Int) < 1000003 by decide)
  refine ⟨mulL (by decide) (by decide), mulL (by omega) (by omega), mulL (by decide) (by decide), mulR (by decide) (by decide), mulL ?_ ?_, ⟨by omega, by omega⟩, .inl (h _ ?_ ?_)⟩
  · omega
  · omega
  · have := Int.emod_nonneg ((c % 1000003 + 31 * k * k + 7 * k + 11) * 48271 % 1000003 * ((c % 1000003 + 31 * k * k + 7 * k + 11) * 48271 % 1000003)) (show (1000003 : Int) ≠ 0 by decide)
    omega
  · have := Int.emod_lt_of_pos ((c % 1000003 + 31 * k * k + 7 * k + 11) * 48271 % 1000003 * ((c % 1000003 + 31 * k * k + 7 * k + 11) * 48271 % 1000003)) (show (0 : Int) < 1000003 by decide)
    omega
theorem Yq (F : Fun K "_law_whole" "_law_whole" vO f fd) (T : Txt P w K mg bw sw hf) : FnOk P w K mg base CX0 1 f fd ["_law_thing"] (zb K ko) := by
  apply F.okV Zc (by rintro _ _ _ ⟨a, rfl, _⟩; rfl) (fun cdv A outer sh H E hr => (zf (zk (y9 (zh (yA (K := K) rfl) (by rfl) T.n_isinstance (by rfl) (QA.pa (qc (pv 0) (qc (zU (v := .ty "int") (u := .type "int") rfl T.n_int rfl rfl) qn)))) (x9 (V6 (zh (yA (K := K) rfl) (by rfl) T.n_isinstance (by rfl) (QA.pa (qc (pv 0) (qc (zU (v := .ty "bool") (u := .type "bool") rfl T.n_bool rfl rfl) qn))))))))))
  · walk_at "ref"
  rintro _ O R ⟨i, rfl, h⟩
  walk_at "wd"
  exact .inl h
theorem Y6 (F : Fun K "_law_sign" "_law_sign" uc f fd) (T : Txt P w K mg bw sw hf) : FnOk P w K mg base CX0 1 f fd ["_law_cell"] (zb K Yn) := by
  have nd := qo.nd
  apply F.okV qo (by rintro _ _ _ ⟨a, rfl, _⟩; rfl) (fun cdv A outer sh H E hr => (zc (zp (i := 1) nd rfl (Or.inl rfl) zm)
      (zf (zk (zB (z7 (K := K) rfl) (zL (qc (zB zbt (pv 1) (ze zz (ze zO (pv 0) za) za) (fun _ _ => rfl)) (qc zm (qc zm (qc zm qn))))) (ze zz (pv 0) za) (fun _ _ => rfl))))))
  · walk_at "ref"
  rintro _ O R ⟨c, rfl, c0, h⟩
  walk_at "wd"
  have sg : ∀ n : _root_.Fin 94, ∃ x, (Str.ofString " !\"#$&'()*+,-./0123456789:;<=>?\x40ABCDEFGHIJKLMNOPQRSTUVWXYZ[\\]^_`abcdefghijklmnopqrstuvwxyz{|}~").cps.toList[n.val]? = some x ∧ signD (.str ⟨#[x]⟩) = true := by
    intro n
    have : ∀ n : _root_.Fin 94, signD (.str ⟨#[(Str.ofString " !\"#$&'()*+,-./0123456789:;<=>?\x40ABCDEFGHIJKLMNOPQRSTUVWXYZ[\\]^_`abcdefghijklmnopqrstuvwxyz{|}~").cps.toList[n.val]?.getD 0]⟩) = true := by decide +kernel
    have hl : (Str.ofString " !\"#$&'()*+,-./0123456789:;<=>?\x40ABCDEFGHIJKLMNOPQRSTUVWXYZ[\\]^_`abcdefghijklmnopqrstuvwxyz{|}~").cps.toList.length = 94 := by decide +kernel
    have h1 := List.getElem?_eq_getElem (show n.val < (Str.ofString " !\"#$&'()*+,-./0123456789:;<=>?\x40ABCDEFGHIJKLMNOPQRSTUVWXYZ[\\]^_`abcdefghijklmnopqrstuvwxyz{|}~").cps.toList.length by rw [hl]; exact n.isLt)
    have h2 := this n
    rw [h1] at h2
    exact ⟨_, h1, h2⟩
  obtain ⟨x, hx, hs⟩ := sg ⟨(c / 4 % 94).toNat, by omega⟩
  refine ⟨⟨by omega, by omega⟩, by decide +kernel, x, ?_, _, rfl, ?_⟩
  · have e : c / 4 % 94 = ((c / 4 % 94).toNat : Nat) := by omega
    rw [e]
    exact yu hx
  · have e : c % 4 = 0 ∨ c % 4 = 1 ∨ c % 4 = 2 ∨ c % 4 = 3 := by omega
    rcases e with e | e | e | e <;> rw [e]
    · exact ⟨_, rfl, .inl (h _ hs)⟩
    · exact ⟨_, rfl, .inl (h _ (by decide +kernel))⟩
    · exact ⟨_, rfl, .inl (h _ (by decide +kernel))⟩
    · exact ⟨_, rfl, .inl (h _ (by decide +kernel))⟩
theorem Y7 (F : Fun K "_law_size" "_law_size" ud f fd) (T : Txt P w K mg bw sw hf) : FnOk P w K mg base CX0 1 f fd ["_law_cell"] (zb K Yo) := by
  apply F.okV Yi (by rintro _ _ _ ⟨a, rfl, _⟩; rfl) (fun cdv A outer sh H E hr => (zc (zI (zx xq (ze zz (pv 0) za) za (zD _)) (zf (zk (zM (qc (ze zE za (ze zz (ze zO (pv 0) za) za)) (qc (ze zE za (ze zz (ze zO (pv 0) za) za)) qn))))) zw)
      (zc (zI (zx xq (ze zz (pv 0) za) za (zD _)) (zf (zk (zM (qc za (qc za qn))))) zw)
      (zf (zk (zM (qc (ze zE za (ze zz (ze zO (pv 0) za) za)) (qc (ze zE za (ze zz (ze zO (pv 0) za) za)) qn))))))))
  · walk_at "ref"
  rintro _ O R ⟨c, rfl, c0, h⟩
  walk_at "wd"
  split
  · exact ⟨⟨by omega, by omega⟩, ⟨by omega, by omega⟩, .inl (h _ _ (by omega) (by omega) (by omega) (by omega))⟩
  · split
    · exact .inl (h _ _ (by decide) (by decide) (by decide) (by decide))
    · exact ⟨⟨by omega, by omega⟩, ⟨by omega, by omega⟩, .inl (h _ _ (by omega) (by omega) (by omega) (by omega))⟩
end
structure PicOk (rows : List (List PyData)) (w : Nat) : Prop where
  w1 : 1 ≤ w
  w2 : w ≤ 24
  h1 : 1 ≤ rows.length
  h2 : rows.length ≤ 12
  row : ∀ r ∈ rows, r.length = w ∧ r.all cellD = true
theorem za0 {d : PyData} (h : cellD d = true) : smD d = true := by
  unfold cellD at h
  split at h
  · rename_i a b
    rw [Bool.and_eq_true] at h
    obtain ⟨h1, h2⟩ := h
    cases a <;> try cases h1
    cases b <;> try cases h2
    rename_i z i
    simp only [signD, Bool.and_eq_true, decide_eq_true_eq] at h1
    simp [smD, vv]
    omega
  · cases h
theorem jj : ∀ {ds : List PyData}, (∀ d ∈ ds, smD d = true) → vv ds = true
  | [], _ => rfl
  | d :: ds, h => by
    simp only [vv, Bool.and_eq_true]
    exact ⟨h d List.mem_cons_self, jj fun x hx => h x (List.mem_cons_of_mem _ hx)⟩
theorem vx {ds : List PyData} (h1 : ds.length ≤ 1000) (h2 : ∀ d ∈ ds, smD d = true) : smD (.list ds) = true := by
  simp only [smD, Bool.and_eq_true, decide_eq_true_eq]
  exact ⟨h1, jj h2⟩
theorem Qu {ds : List PyData} (h1 : ds.length ≤ 1000) (h2 : ∀ d ∈ ds, smD d = true) : smD (.tuple ds) = true := by
  simp only [smD, Bool.and_eq_true, decide_eq_true_eq]
  exact ⟨h1, jj h2⟩
theorem PicOk.rowSm {rows : List (List PyData)} {w : Nat} (h : PicOk rows w) {r : List PyData} (m : r ∈ rows) : ∀ d ∈ r, smD d = true := fun d hd => za0 (List.all_eq_true.1 (h.row r m).2 d hd)
theorem PicOk.rowSm' {rows : List (List PyData)} {w : Nat} (h : PicOk rows w) {r : List PyData} (m : r ∈ rows) : smD (.list r) = true := by
  have := (h.row r m).1
  have := h.w2
  exact vx (by omega) (h.rowSm m)
theorem PicOk.sm {rows : List (List PyData)} {w : Nat} (h : PicOk rows w) : smD (pd rows) = true := by
  have := h.h2
  refine vx (by rw [List.length_map]; omega) fun d hd => ?_
  obtain ⟨r, hr, rfl⟩ := List.mem_map.1 hd
  exact h.rowSm' hr
theorem PicOk.pic {rows : List (List PyData)} {w : Nat} (h : PicOk rows w) : picB (pd rows) = true := by
  obtain ⟨w1, w2, h1, h2, row⟩ := h
  cases rows with
  | nil => cases h1
  | cons r rs =>
    have e : picB (pd (r :: rs)) = (sizeB (.int r.length) (.int ((rs.map PyData.list).length + 1 : Nat)) && ((r :: rs).map PyData.list).all (rowB r.length)) := rfl
    have hw := (row r List.mem_cons_self).1
    rw [e, Bool.and_eq_true]
    refine ⟨?_, List.all_eq_true.2 fun d hd => ?_⟩
    · simp only [sizeB, wholeD, Bool.and_eq_true, decide_eq_true_eq, List.length_map]
      simp only [List.length_cons] at h1 h2
      omega
    · obtain ⟨q, hq, rfl⟩ := List.mem_map.1 hd
      have := row q hq
      show (decide ((q.length : Int) = _) && q.all cellD) = true
      rw [this.2, this.1, hw, decide_eq_true rfl]
      rfl
noncomputable def VS (h w : Nat) : PyData → Prop
  | .list es => es.length = 0 ∨ 24 < es.length ∨ es.all cellD = false ∨ (1 < h ∧ es.length ≠ w)
  | _ => True
theorem za1 {h w : Nat} {x : PyData} (b : VS h w x) (w1 : 1 ≤ w) (w2 : w ≤ 24) : rowB w x = false := by
  cases x with
  | list es =>
    show (decide ((es.length : Int) = w) && es.all cellD) = false
    rcases b with b | b | b | b
    · rw [decide_eq_false (by omega), Bool.false_and]
    · rw [decide_eq_false (by omega), Bool.false_and]
    · rw [b, Bool.and_false]
    · rw [decide_eq_false (by omega), Bool.false_and]
  | _ => rfl
theorem za2 {rows : List (List PyData)} {w n : Nat} {x : PyData} (p : PicOk rows w) (hn : n < rows.length) (b : VS rows.length w x) : picB (.list ((rows.map PyData.list).take n ++ x :: (rows.map PyData.list).drop (n + 1))) = false := by
  obtain ⟨w1, w2, h1, h2, row⟩ := p
  cases n with
  | zero =>
    rw [List.take_zero, List.nil_append]
    cases x with
    | list es =>
      have e : picB (.list (.list es :: (rows.map PyData.list).drop 1)) = (sizeB (.int es.length) (.int (((rows.map PyData.list).drop 1).length + 1 : Nat)) && (PyData.list es :: (rows.map PyData.list).drop 1).all (rowB es.length)) := rfl
      rw [show (0 + 1 : Nat) = 1 from rfl, e]
      rcases b with b | b | b | b
      · have : sizeB (.int es.length) (.int (((rows.map PyData.list).drop 1).length + 1 : Nat)) = false := by
          simp only [sizeB, wholeD]
          rw [decide_eq_false (p := (1 : Int) ≤ es.length) (by omega), Bool.false_and, Bool.false_and]
        rw [this, Bool.false_and]
      · have : sizeB (.int es.length) (.int (((rows.map PyData.list).drop 1).length + 1 : Nat)) = false := by
          simp only [sizeB, wholeD]
          rw [decide_eq_false (p := (es.length : Int) ≤ 24) (by omega), Bool.and_false, Bool.false_and]
        rw [this, Bool.false_and]
      · have : rowB es.length (.list es) = false := by
          show (decide _ && es.all cellD) = false
          rw [b, Bool.and_false]
        rw [List.all_cons, this, Bool.false_and, Bool.and_false]
      · have : ((rows.map PyData.list).drop 1).all (rowB es.length) = false := by
          cases rows with
          | nil => cases hn
          | cons r rs =>
            cases rs with
            | nil => exact absurd b.1 (by simp)
            | cons q rs =>
              have hq := (row q (by simp)).1
              rw [List.map_cons, List.map_cons, List.drop_succ_cons, List.drop_zero, List.all_cons]
              have : rowB es.length (.list q) = false := by
                show (decide ((q.length : Int) = es.length) && q.all cellD) = false
                rw [decide_eq_false (by omega), Bool.false_and]
              rw [this, Bool.false_and]
        rw [List.all_cons, this, Bool.and_false, Bool.and_false]
    | _ => rfl
  | succ n =>
    cases rows with
    | nil => cases hn
    | cons r rs =>
      rw [List.map_cons, List.take_succ_cons, List.cons_append]
      have e : ∀ l : List PyData, picB (.list (.list r :: l)) = (sizeB (.int r.length) (.int (l.length + 1 : Nat)) && (PyData.list r :: l).all (rowB r.length)) := fun _ => rfl
      rw [e]
      have hw := (row r List.mem_cons_self).1
      have : (PyData.list r :: (List.take n (rs.map PyData.list) ++ x :: List.drop (n + 1 + 1) (PyData.list r :: rs.map PyData.list))).all (rowB r.length) = false := by
        rw [hw]
        have hb := za1 b w1 w2
        rw [List.all_cons, List.all_append, List.all_cons, hb, Bool.false_and, Bool.and_false, Bool.and_false]
      rw [this, Bool.and_false]
theorem Qv {ds : List PyData} {n : Nat} {x : PyData} (hl : ds.length ≤ 900) (h : ∀ d ∈ ds, smD d = true) (hx : smD x = true) : smD (.list (ds.take n ++ x :: ds.drop (n + 1))) = true := by
  refine vx (by simp; omega) fun d hd => ?_
  rcases List.mem_append.1 hd with m | m
  · exact h d (List.mem_of_mem_take m)
  · rcases List.mem_cons.1 m with rfl | m
    · exact hx
    · exact h d (List.mem_of_mem_drop m)
theorem za3 {r : List PyData} {n : Nat} {x : PyData} (hx : cellD x = false) : (r.take n ++ x :: r.drop (n + 1)).all cellD = false := by
  rw [List.all_append, List.all_cons, hx, Bool.false_and, Bool.and_false]
theorem uu {ds : List PyData} {n : Nat} : yd ds none (some (n : Int)) = ds.take n := by
  unfold yd
  rw [HT.sIx_none, HT.sIx_nat, List.drop_zero, Nat.sub_zero]
  rcases Nat.le_total n ds.length with h | h
  · rw [Nat.min_eq_left h]
  · rw [Nat.min_eq_right h, List.take_length, List.take_of_length_le h]
theorem jk {ds : List PyData} {n : Nat} : yd ds (some (n : Int)) none = ds.drop n := by
  unfold yd
  rw [HT.sIx_none, HT.sIx_nat]
  rcases Nat.le_total n ds.length with h | h
  · rw [Nat.min_eq_left h, List.take_of_length_le (by rw [List.length_drop]; omega)]
  · rw [Nat.min_eq_right h, List.drop_length, List.drop_eq_nil_of_le h]
    simp
theorem JM {l : List PyData} (h : l.length = 13) : picB (.list l) = false := by
  cases l with
  | nil => rfl
  | cons d rs =>
    cases d with
    | list es =>
      have e : picB (.list (.list es :: rs)) = (sizeB (.int es.length) (.int (rs.length + 1 : Nat)) && (PyData.list es :: rs).all (rowB es.length)) := rfl
      have : sizeB (.int es.length) (.int (rs.length + 1 : Nat)) = false := by
        simp only [List.length_cons] at h
        simp only [sizeB, wholeD]
        rw [decide_eq_false (p := ((rs.length + 1 : Nat) : Int) ≤ 12) (by omega), Bool.and_false, Bool.and_false]
      rw [e, this, Bool.false_and]
    | _ => rfl
noncomputable def VT : SpW := fun ws O R => ∃ ns : List Int, ∃ k : Int, ws = [.d (.list (ns.map .int)), .d (.int k)] ∧ 0 ≤ k ∧ k ≤ 1000 ∧ ∀ rows w O', PicOk rows w → R (.d (pd rows)) O'
local macro_rules | `(tactic| walk_at "postc") => `(tactic| simp only [yE, Qs, Yp, ut, XN, XO, zY, Option.some.injEq, exists_eq_left', List.length_map, yp])
section
variable {P : Program} {w : World} {K : PySem.W.Frag} {mg : Str → Option Value} {base : Heap} {f : Addr} {fd : FuncData} {se bp bs bi ba un : Addr} {bw sw hf : Addr}
theorem kq (F : Fun K "_law_picture" "_law_picture" xW f fd) (T : Txt P w K mg bw sw hf) (zek : Cal P w K mg base 1 "_law_size" [] (zb K Yo)) (zed : Cal P w K mg base 1 "_law_at" [] (zb K Ym)) (zej : Cal P w K mg base 1 "_law_sign" [] (zb K Yn)) : FnOk P w K mg base CX0 2 f fd ["_law_script", "_law_at_here"] (zb K VT) := by
  have nd := vY.nd
  apply F.okV vY (by rintro _ _ _ ⟨a, b, rfl, _⟩; rfl) (fun cdv A outer sh H E hr => (zc (zbi (zr zek (hr.mono (by decide)) rfl (QA.pa (qc (zr zed (hr.mono (by decide)) rfl (QA.pa (qc (pv 0) (qc (pv 1) qn)))) qn))) (xM (K := K) (n := 2) rfl rfl (zT (zo (i := 2) nd rfl (Or.inl rfl)) (zT (zo (i := 3) nd rfl (Or.inl rfl)) xF))))
      (zc (zp (i := 4) nd rfl (Or.inl rfl) (zB (z7 (K := K) rfl) (zL (qc za (qc za (qc za (qc za qn))))) (ze zz (zr zed (hr.mono (by decide)) rfl (QA.pa (qc (pv 0) (qc (ze zE (pv 1) za) qn)))) za) (fun _ _ => rfl)))
      (zc (zp (i := 5) nd rfl (Or.inl rfl) (xL qn))
      (zc (yG PassesOwn.never rfl (va rfl T.n_range (QA.pa (qc (pv 3) qn))) (zo (i := 6) nd rfl (Or.inl rfl))
      (zc (zp (i := 7) nd rfl (Or.inl rfl) (xL qn))
      (zc (yG PassesOwn.never rfl (va rfl T.n_range (QA.pa (qc (pv 2) qn))) (zo (i := 8) nd rfl (Or.inl rfl))
      (zc (zp (i := 9) nd rfl (Or.inl rfl) (zr zed (hr.mono (by decide)) rfl (QA.pa (qc (pv 0) (qc (ze zE (ze zE (ze zE (pv 1) za) (ze yM za (pv 6))) (pv 8)) qn)))))
      (zc (zp (i := 10) nd rfl (Or.inl rfl) (ze zz (ze zE (ze zO (zr zed (hr.mono (by decide)) rfl (QA.pa (qc (pv 0) (qc (ze zE (pv 1) za) qn)))) za) (ze yM (ze zz (ze zO (pv 9) za) (pv 4)) za)) za))
      (zf (ym (zP (K := K) rfl PySem.F.plainAttrs_list PySem.F.slot_list_append PySem.F.type_list_append yk (pv 7) (QA.pa (qc (zM (qc (zr zej (hr.mono (by decide)) rfl (QA.pa (qc (pv 9) qn))) (qc (pv 10) qn))) qn))))))))
      (zf (ym (zP (K := K) rfl PySem.F.plainAttrs_list PySem.F.slot_list_append PySem.F.type_list_append Vp (pv 5) (QA.pa (qc (pv 7) qn))))))))
      (zf (zk (pv 5))))))))
  · walk_at "ref"
  rintro _ O R ⟨ns, k, rfl, k0, k1, h⟩
  refine zdg (fun ρ' O' => ∃ x y m : Int, ∃ a, 1 ≤ x ∧ x ≤ 24 ∧ 1 ≤ y ∧ y ≤ 12 ∧ 1 ≤ m ∧ m ≤ 512 ∧ ρ' = [some (.d (.list (ns.map .int))), some (.d (.int k)), some (.d (.int x)), some (.d (.int y)), some (.d (.int m)), some (.own a), none, none, none, none, none] ∧ O' a = some (.lst [])) (fun R1 hR1 => ?_) ?_
  · walk_at "wd"
    refine ⟨ns, k, rfl, k0, by omega, fun n n0 n1 => ⟨n, rfl, n0, fun x y x1 x2 y1 y2 => ⟨_, rfl, rfl, _, _, rfl, _, _, rfl, rfl, ns, k + 1, rfl, by omega, by omega, fun n n0 n1 => ⟨by decide, _, rfl, ?_⟩⟩⟩⟩
    have e : n % 4 = 0 ∨ n % 4 = 1 ∨ n % 4 = 2 ∨ n % 4 = 3 := by omega
    rcases e with e | e | e | e <;> rw [e] <;> exact ⟨_, rfl, fun p hp => hR1 _ _ ⟨x, y, _, p, x1, x2, y1, y2, by decide, by decide, rfl, zj⟩⟩
  rintro _ O1 ⟨x, y, m, a, x1, x2, y1, y2, m1, m2, rfl, ha⟩
  refine zZ (fun ρ' O' => ∃ rows v1 v2 v3 v4 v5, PicOk rows x.toNat ∧ ρ' = [some (.d (.list (ns.map .int))), some (.d (.int k)), some (.d (.int x)), some (.d (.int y)), some (.d (.int m)), some (.own a), v1, v2, v3, v4, v5] ∧ O' a = some (.lst (rows.map fun r => W.d (.list r)))) (fun R1 hR1 => ?_) ?_
  · walk_at "wd"
    refine ⟨by omega, by omega, ?_⟩
    refine yq.rng (f := fun i => (i : Int)) (fun i ρ O' => ∃ rows : List (List PyData), ∃ v1 v2 v3 v4 v5, ρ = [some (.d (.list (ns.map .int))), some (.d (.int k)), some (.d (.int x)), some (.d (.int y)), some (.d (.int m)), some (.own a), v1, v2, v3, v4, v5] ∧ O' a = some (.lst (rows.map fun r => W.d (.list r))) ∧ rows.length = i ∧ ∀ r ∈ rows, r.length = x.toNat ∧ r.all cellD = true) ⟨[], _, _, _, _, _, rfl, ha, rfl, by simp⟩ ?_ ?_
    · rintro i _ O2 hi ⟨rows, v1, v2, v3, v4, v5, rfl, ho, hl, hrow⟩ R2 hR2
      simp only [xy]
      refine x3 (fun ρ' O' => ∃ b, ∃ r : List PyData, ∃ v3 v4 v5, ρ' = [some (.d (.list (ns.map .int))), some (.d (.int k)), some (.d (.int x)), some (.d (.int y)), some (.d (.int m)), some (.own a), some (.d (.int i)), some (.own b), v3, v4, v5] ∧ b ≠ a ∧ O' a = some (.lst (rows.map fun r => W.d (.list r))) ∧ O' b = some (.lst (r.map W.d)) ∧ r.length = x.toNat ∧ r.all cellD = true) (fun R3 hR3 => ?_) ?_
      · walk_at "wd"
        intro b hb
        have nb : b ≠ a := fun e => by rw [e, ho] at hb; cases hb
        refine ⟨by omega, by omega, ?_⟩
        refine yq.rng (f := fun i => (i : Int)) (fun j ρ O' => ∃ r : List PyData, ∃ v3 v4 v5, ρ = [some (.d (.list (ns.map .int))), some (.d (.int k)), some (.d (.int x)), some (.d (.int y)), some (.d (.int m)), some (.own a), some (.d (.int i)), some (.own b), v3, v4, v5] ∧ O' a = some (.lst (rows.map fun r => W.d (.list r))) ∧ O' b = some (.lst (r.map W.d)) ∧ r.length = j ∧ r.all cellD = true) ⟨[], _, _, _, rfl, by rw [zi (Ne.symm nb)]; exact ho, zj, rfl, rfl⟩ ?_ ?_
        · rintro j _ O3 hj ⟨r, v3, v4, v5, rfl, h1, h2, h3, h4⟩ R4 hR4
          simp only [xy]
          refine x3 (fun ρ' O' => ∃ c d : Int, 0 ≤ c ∧ 0 ≤ d ∧ d < 512 ∧ ρ' = [some (.d (.list (ns.map .int))), some (.d (.int k)), some (.d (.int x)), some (.d (.int y)), some (.d (.int m)), some (.own a), some (.d (.int i)), some (.own b), some (.d (.int j)), some (.d (.int c)), some (.d (.int d))] ∧ O3 = O') (fun R5 hR5 => ?_) ?_
          · walk_at "wd"
            refine ⟨mulL (by decide) (by decide), ns, _, rfl, by omega, by omega, fun n n0 n1 => ⟨ns, _, rfl, by omega, by omega, fun q q0 q1 => ⟨⟨by omega, by omega⟩, ⟨by omega, by omega⟩, by omega, mulR (by decide) (by decide), hR5 _ _ ⟨n, _, n0, Int.emod_nonneg _ (by decide), Int.emod_lt_of_pos _ (by decide), rfl, rfl⟩⟩⟩⟩
          rintro _ _ ⟨c, d, c0, d0, d1, rfl, rfl⟩
          walk_at "wd"
          refine ⟨.inl ⟨rfl, by simp [zq, h2]⟩, c, rfl, c0, fun z hz => ⟨[.str z, .int d], rfl, by simp, updO O3 b (.lst ((r ++ [PyData.tuple [.str z, .int d]]).map W.d)), ?_, hR4 _ _ ⟨r ++ [.tuple [.str z, .int d]], _, _, _, rfl, by rw [zi (Ne.symm nb)]; exact h1, zj, by simp [h3], ?_⟩⟩⟩
          · simp only [vD, h2]
            rw [if_pos (by rw [List.length_map]; omega), List.map_append]
            rfl
          · rw [List.all_append, h4, List.all_cons, List.all_nil, Bool.and_true, Bool.true_and]
            show (signD (.str z) && inkD (.int d)) = true
            rw [hz, Bool.true_and]
            simp only [inkD, wholeD, Bool.and_eq_true, decide_eq_true_eq]
            omega
        · rintro _ O3 ⟨r, v3, v4, v5, rfl, h1, h2, h3, h4⟩
          exact hR3 _ _ ⟨b, r, _, _, _, rfl, nb, h1, h2, h3, h4⟩
      rintro _ O3 ⟨b, r, w3, w4, w5, rfl, nb, h1, h2, h3, h4⟩
      walk_at "wd"
      refine ⟨.inl ⟨rfl, by simp [zq, h1]⟩, updO (del O3 b) a (.lst ((rows ++ [r]).map fun r => W.d (.list r))), ?_, hR2 _ _ ⟨rows ++ [r], _, _, _, _, _, rfl, zj, by simp [hl], ?_⟩⟩
      · simp only [JB, h2, zY, xw (Ne.symm nb), h1]
        rw [if_pos (by rw [List.length_map]; omega), List.map_append]
        rfl
      · intro q hq
        rcases List.mem_append.1 hq with m | m
        · exact hrow q m
        · cases List.mem_singleton.1 m
          exact ⟨h3, h4⟩
    · rintro _ O2 ⟨rows, v1, v2, v3, v4, v5, rfl, ho, hl, hrow⟩
      exact hR1 _ _ ⟨rows, _, _, _, _, _, ⟨by omega, by omega, by omega, by omega, hrow⟩, rfl, ho⟩
  rintro _ O2 ⟨rows, v1, v2, v3, v4, v5, ok, rfl, ho⟩
  walk_at "wd"
  refine .inr ⟨a, rows.map PyData.list, rfl, ?_, h _ _ _ ok⟩
  rw [ho, List.map_map]
  rfl
end
noncomputable def zW (n : Nat) : List Str := (if n / 64 % 2 = 1 then [xQ] else []) ++ (if n / 128 % 2 = 1 then [vg] else []) ++ (if n / 256 % 2 = 1 then [vh] else [])
noncomputable def zu (n : Nat) : List Str := zW n ++ (if n % 8 = 0 then [] else [xC ++ sp1 ++ fig (n % 8)]) ++ (if n / 8 % 8 = 0 then [] else [vF ++ sp1 ++ fig (n / 8 % 8)])
theorem za4 (w : Str) : Str.join sp1 [w] = w := rfl
theorem za5 (w v : Str) : Str.join sp1 [w, v] = w ++ sp1 ++ v := rfl
theorem jQ (n : Nat) : zu n = (bun n).map (Str.join sp1) := by
  unfold zu zW bun
  by_cases c1 : n / 64 % 2 = 1 <;> by_cases c2 : n / 128 % 2 = 1 <;> by_cases c3 : n / 256 % 2 = 1 <;> by_cases c4 : n % 8 = 0 <;> by_cases c5 : n / 8 % 8 = 0 <;> simp [c1, c2, c3, c4, c5, za4, za5]
theorem uN {n : Nat} (h : n < 512) : (zu n).isEmpty = decide (n = 0) := by
  rw [jQ]
  by_cases h0 : n = 0
  · subst h0; rfl
  · rw [decide_eq_false h0]
    cases hb : bun n with
    | nil =>
      have := KJ h0 h
      unfold wl at this
      rw [hb] at this
      exact absurd rfl this
    | cons a l => rfl
theorem Yr {n : Nat} : yt n = if n = 0 then Str.ofString "plain" else Str.join sp1 (zu n) := by
  unfold yt
  rw [jQ]
theorem jl : ∀ n : _root_.Fin 512, (n.val &&& 64 = 0 ↔ ¬ n.val / 64 % 2 = 1) ∧ (n.val &&& 128 = 0 ↔ ¬ n.val / 128 % 2 = 1) ∧ (n.val &&& 256 = 0 ↔ ¬ n.val / 256 % 2 = 1) ∧ n.val &&& 7 = n.val % 8 ∧ (n.val / 8) &&& 7 = n.val / 8 % 8 := by decide +kernel
theorem kt : ∀ k : _root_.Fin 8, Str.ofString ((k.val : Int).repr) = fig k.val := by decide +kernel
theorem zcK : ∀ z ∈ figs, figs[uC z]? = some z ∧ ∀ i, i < uC z → figs[i]? ≠ some z := by decide +kernel
theorem zcL (z : Str) : inV (V.str z) (List.map vOf (figs.map PyData.str)) = decide (z ∈ figs) := by
  rw [List.map_map]
  have e : List.map (vOf ∘ PyData.str) figs = figs.map V.str := rfl
  rw [e]
  unfold inV
  rw [List.any_map, Bool.eq_iff_iff, List.any_eq_true, decide_eq_true_iff]
  constructor
  · rintro ⟨y, hy, hz⟩
    have : y = z := by simpa [eqV] using hz
    rw [← this]
    exact hy
  · intro hz
    exact ⟨z, hz, by simp [eqV]⟩
theorem kY (a : Str) : Str.empty ++ a = a := by
  apply xP
  rw [zC]
  rfl
noncomputable def Zu : SpW := fun ws O R => ∃ n : Nat, ws = [.d (.int n)] ∧ n < 512 ∧ R (.d (.int (n % 8 : Nat))) O
noncomputable def Zv : SpW := fun ws O R => ∃ n : Nat, ws = [.d (.int n)] ∧ n < 512 ∧ R (.d (.int (n / 8 % 8 : Nat))) O
noncomputable def zcM : SpW := fun ws O R => ∃ n : Nat, ws = [.d (.int n)] ∧ n < 512 ∧ ∀ O', Old O O' → R (.d (.str (yt n))) O'
noncomputable def Zw : SpW := fun ws O R => ∃ n : Nat, ws = [.d (.int n)] ∧ n < 512 ∧ R (.d (.str (yt n))) O
noncomputable def JN : SpW := fun ws O R => ∃ zs : List Str, ws = [.d (.list (zs.map .str))] ∧ R (.d (.int (lik zs : Nat))) O
section
variable {P : Program} {w : World} {K : PySem.W.Frag} {mg : Str → Option Value} {base : Heap} {f : Addr} {fd : FuncData} {bw sw hf : Addr}
theorem VU (F : Fun K "fore_of" "fore_of" qd f fd) (T : Txt P w K mg bw sw hf) : FnOk P w K mg base CX0 1 f fd ["ink"] (zb K Zu) := by
  apply F.okV VF (by rintro _ _ _ ⟨a, rfl, _⟩; rfl) (fun cdv A outer sh H E hr => (zf (zk (ze ZC (pv 0) za))))
  · walk_at "ref"
  rintro _ O R ⟨n, rfl, hn, h⟩
  walk_at "wd"
  have e : Builtin.bitAnd (n : Int) 7 = ((n % 8 : Nat) : Int) := by
    rw [← (jl ⟨n, hn⟩).2.2.2.1]
    exact vE n 7
  rw [e]
  exact .inl h
theorem VV (F : Fun K "back_of" "back_of" qe f fd) (T : Txt P w K mg bw sw hf) : FnOk P w K mg base CX0 1 f fd ["ink"] (zb K Zv) := by
  apply F.okV VG (by rintro _ _ _ ⟨a, rfl, _⟩; rfl) (fun cdv A outer sh H E hr => (zf (zk (ze ZC (ze zbm (pv 0) za) za))))
  · walk_at "ref"
  rintro _ O R ⟨n, rfl, hn, h⟩
  walk_at "wd"
  have e : Builtin.bitAnd ((n : Int) / 8) 7 = ((n / 8 % 8 : Nat) : Int) := by
    rw [← (jl ⟨n, hn⟩).2.2.2.2]
    exact vE (n / 8) 7
  rw [e]
  exact .inl h
theorem Ys (F : Fun K "ink_text" "ink_text" vt f fd) (T : Txt P w K mg bw sw hf) (zer : Cal P w K mg base 1 "fore_of" [] (zb K Zu)) (zeq : Cal P w K mg base 1 "back_of" [] (zb K Zv)) : FnOk P w K mg base CX0 2 f fd ["ink"] (zb K zcM) := by
  have nd := qQ.nd
  apply F.okV qQ (by rintro _ _ _ ⟨a, rfl, _⟩; rfl) (fun cdv A outer sh H E hr => (zc (kN (i := 1) nd rfl rfl (yO (N := ["word", "bit", "ink"]) (n := 2) (js := [0])) rfl (Qb (K := K) (P := P) (w := w) rfl rfl rfl (yF (v := .ref bw) (u := .ref bw) rfl T.g_BITS_BY_WORD rfl)) (fun _ _ _ _ => (xM (K := K) (n := 2) rfl rfl (zT (zo (i := 0) (show List.Nodup (["word", "bit", "ink"] : List Str) by decide +kernel) rfl (Or.inl rfl)) (zT (zo (i := 1) (show List.Nodup (["word", "bit", "ink"] : List Str) by decide +kernel) rfl (Or.inl rfl)) xF)))) (fun _ _ _ _ => (Xl (kO (K := K) rfl (ze ZC (pv 2) (pv 1)) (fun _ => rfl)))) (fun _ _ _ _ => (pv 0)))
      (zc (yG PassesOwn.never rfl (Xu (K := K) rfl (zM (qc (zM (qc zm (qc (zr zer (hr.mono (by decide)) rfl (QA.pa (qc (pv 0) qn))) qn))) (qc (zM (qc zm (qc (zr zeq (hr.mono (by decide)) rfl (QA.pa (qc (pv 0) qn))) qn))) qn)))) (xM (K := K) (n := 2) rfl rfl (zT (zo (i := 2) nd rfl (Or.inl rfl)) (zT (zo (i := 3) nd rfl (Or.inl rfl)) xF)))
      (zf (zI (zx vp (pv 3) za (zD _)) (zf (ym (zP (K := K) rfl PySem.F.plainAttrs_list PySem.F.slot_list_append PySem.F.type_list_append yk (pv 1) (QA.pa (qc (U9 (pv 2) (pv 3) (by decide)) qn))))) zw)))
      (zf (zk (QB (kO (K := K) rfl (pv 1) (fun _ => rfl)) (zP (K := K) rfl PySem.F.plainAttrs_str PySem.F.slot_str_join PySem.F.type_str_join (xN (K := K) rfl) zm (QA.pa (qc (pv 1) qn))) zm))))))
  · walk_at "ref"
  rintro _ O R ⟨n, rfl, hn, h⟩
  obtain ⟨a1, a2, a3, _, _⟩ := jl ⟨n, hn⟩
  refine zZ (fun ρ' O' => ∃ p, ρ' = [some (.d (.int n)), some (.own p), none, none] ∧ O' p = some (.lst ((zW n).map yr)) ∧ O p = none ∧ Old O O') (fun R1 hR1 => ?_) ?_
  · walk_at "wd"
    refine ⟨bitsD, T.d_bw, by decide, fun v => match v with | .d (.tuple [.str z, .int b]) => if Builtin.bitAnd (n : Int) b = 0 then none else some (.str z) | _ => none, ?_, fun p hp => ?_⟩
    · rintro _ z b hz rfl us hu
      obtain ⟨u1, u2, rfl⟩ : ∃ a b, us = [a, b] := by
        match us, hu with
        | [a, b], _ => exact ⟨a, b, rfl⟩
      refine ⟨_, rfl, rfl, _, _, rfl, _, _, rfl, rfl, rfl, rfl, ?_⟩
      show if Builtin.bitAnd (n : Int) b = 0 then _ else _
      split
      · rename_i q
        show none = Option.map W.d (if Builtin.bitAnd (n : Int) b = 0 then none else some (.str z))
        rw [if_pos q]
        rfl
      · rename_i q
        show some (W.d (.str z)) = Option.map W.d (if Builtin.bitAnd (n : Int) b = 0 then none else some (.str z))
        rw [if_neg q]
        rfl
    · refine hR1 _ _ ⟨p, rfl, ?_, hp, Old.upd Old.refl hp⟩
      rw [zj]
      have b1 : (Builtin.bitAnd (n : Int) 64 = 0) = ¬ n / 64 % 2 = 1 := by
        rw [show (64 : Int) = ((64 : Nat) : Int) from rfl, vE]
        exact propext ⟨fun z => a1.1 (by exact_mod_cast z), fun z => by exact_mod_cast a1.2 z⟩
      have b2 : (Builtin.bitAnd (n : Int) 128 = 0) = ¬ n / 128 % 2 = 1 := by
        rw [show (128 : Int) = ((128 : Nat) : Int) from rfl, vE]
        exact propext ⟨fun z => a2.1 (by exact_mod_cast z), fun z => by exact_mod_cast a2.2 z⟩
      have b3 : (Builtin.bitAnd (n : Int) 256 = 0) = ¬ n / 256 % 2 = 1 := by
        rw [show (256 : Int) = ((256 : Nat) : Int) from rfl, vE]
        exact propext ⟨fun z => a3.1 (by exact_mod_cast z), fun z => by exact_mod_cast a3.2 z⟩
      unfold bitsD zW
      by_cases c1 : n / 64 % 2 = 1 <;> by_cases c2 : n / 128 % 2 = 1 <;> by_cases c3 : n / 256 % 2 = 1 <;> simp [b1, b2, b3, c1, c2, c3, yr, xQ, vg, vh]
  rintro _ O1 ⟨p, rfl, hp, hpn, ho1⟩
  refine zZ (fun ρ' O' => ∃ v1 v2, ρ' = [some (.d (.int n)), some (.own p), v1, v2] ∧ O' p = some (.lst ((zu n).map yr)) ∧ Old O O') (fun R1 hR1 => ?_) ?_
  · walk_at "wd"
    refine ⟨n, rfl, hn, _, ⟨_, rfl, rfl⟩, (by show (2 : Nat) ≤ 1000; decide), n, rfl, hn, _, ⟨_, rfl, rfl⟩, (by show (2 : Nat) ≤ 1000; decide), ?_⟩
    have ml : (zW n).length ≤ 3 := by
      unfold zW
      simp only [List.length_append]
      split <;> split <;> split <;> simp
    have step : ∀ (wd : Str) (k : Nat) (v1 v2 : Option W) (O2 : OM) (L : List Str) (R2 : WS → OM → Prop), wd.length ≤ 10 → k < 8 → L.length ≤ 10 → O2 p = some (.lst (L.map yr)) → Old O O2 → (∀ O3 v1 v2, Old O O3 → O3 p = some (.lst ((L ++ (if k = 0 then [] else [wd ++ sp1 ++ fig k])).map yr)) → R2 [some (.d (.int n)), some (.own p), v1, v2] O3) →
        ZX (jB (wOp vNe (u7 3) (wC (PyData.int 0)))) (jA (wBM "list" ka (u7 1) (Zm (JE (u7 2) (Str.ofString " ") (u7 3)) Vc))) Zo { nx := R2, rt := Clo R, bk := R1, ct := R2 } [some (.d (.int n)), some (.own p), some (.d (.str wd)), some (.d (.int k))] O2 := by
      intro wd k v1 v2 O2 L R2 hwd hk hL hO ho2 hR2
      walk_at "wd"
      split
      · rename_i q
        refine hR2 _ _ _ ho2 ?_
        rw [if_pos q, List.append_nil]
        exact hO
      · rename_i q
        have ef := kt ⟨k, hk⟩
        simp only at ef
        rw [ef, kY]
        refine ⟨.inl ⟨rfl, by simp [zq, hO]⟩, by omega, by omega, (by show (1 : Nat) ≤ 1000; decide), updO O2 p (.lst ((L ++ [wd ++ sp1 ++ fig k]).map yr)), ?_, hR2 _ _ _ (ho2.upd hpn) ?_⟩
        · simp only [vD, hO]
          rw [if_pos (by rw [List.length_map]; omega), List.map_append]
          rfl
        · rw [zj, if_neg q]
    refine yq.by (fun i ρ O' => ∃ v1 v2, ρ = [some (.d (.int n)), some (.own p), v1, v2] ∧ O' p = some (.lst ((match i with | 0 => zW n | 1 => zW n ++ (if n % 8 = 0 then [] else [xC ++ sp1 ++ fig (n % 8)]) | _ => zu n).map yr)) ∧ Old O O') ⟨_, _, rfl, hp, ho1⟩ (fun _ _ _ _ => trivial) ?_ ?_
    · rintro i x _ O2 hx ⟨v1, v2, rfl, hO, ho2⟩ R2 hR2
      match i, hx, hO, hR2 with
      | 0, hx, hO, hR2 =>
        cases hx
        refine ⟨_, rfl, rfl, _, _, rfl, _, _, rfl, rfl, ?_⟩
        exact step xC (n % 8) v1 v2 O2 (zW n) R2 (by decide +kernel) (by omega) (by omega) hO ho2 fun O3 v1 v2 ho3 h3 => hR2 _ _ ⟨_, _, rfl, h3, ho3⟩
      | 1, hx, hO, hR2 =>
        cases hx
        refine ⟨_, rfl, rfl, _, _, rfl, _, _, rfl, rfl, ?_⟩
        exact step vF (n / 8 % 8) v1 v2 O2 (zW n ++ (if n % 8 = 0 then [] else [xC ++ sp1 ++ fig (n % 8)])) R2 (by decide +kernel) (by omega) (by rw [List.length_append]; split <;> simp <;> omega) hO ho2 fun O3 v1 v2 ho3 h3 => hR2 _ _ ⟨_, _, rfl, h3, ho3⟩
      | i + 2, hx, hO, hR2 => cases hx
    · rintro _ O2 ⟨v1, v2, rfl, hO, ho2⟩
      exact hR1 _ _ ⟨v1, v2, rfl, hO, ho2⟩
  rintro _ O2 ⟨v1, v2, rfl, hp2, ho2⟩
  walk_at "wd"
  simp only [hp2, List.isEmpty_map, uN hn]
  by_cases h0 : n = 0
  · refine .inl ⟨by simp [h0], .inl ?_⟩
    have := h O2 ho2
    rw [Yr, if_pos h0] at this
    exact this
  · refine .inr ⟨by simp [h0], .inr (.inl ⟨rfl, _, rfl⟩), zu n, by simp only [zq, hp2], by decide +kernel, ?_, .inl ?_⟩
    · have pl : (zu n).length ≤ 5 := by
        unfold zu zW
        simp only [List.length_append]
        split <;> split <;> split <;> split <;> split <;> simp
      have pw : ∀ q ∈ zu n, q.length ≤ 20 := by
        have w1 : xQ.length ≤ 20 ∧ vg.length ≤ 20 ∧ vh.length ≤ 20 ∧ xC.length ≤ 10 ∧ vF.length ≤ 10 ∧ sp1.length ≤ 1 := by decide +kernel
        obtain ⟨w1, w2, w3, w4, w5, w6⟩ := w1
        have lf : ∀ k, (fig k).length = 1 := fun k => rfl
        intro q hq
        unfold zu zW at hq
        simp only [List.mem_append] at hq
        rcases hq with (((hq | hq) | hq) | hq) | hq <;> split at hq <;> simp at hq <;> subst hq
        · exact w1
        · exact w2
        · exact w3
        · rw [strLen_append, strLen_append, lf]; omega
        · rw [strLen_append, strLen_append, lf]; omega
      have : ∀ L : List Str, (∀ q ∈ L, q.length ≤ 20) → (L.map (·.length)).sum ≤ 20 * L.length := by
        intro L
        induction L with
        | nil => simp
        | cons a L ih =>
          intro hL
          have := ih fun q hq => hL q (List.mem_cons_of_mem _ hq)
          have := hL a List.mem_cons_self
          simp only [List.map_cons, List.sum_cons, List.length_cons]
          omega
      have := this _ pw
      omega
    · have := h O2 ho2
      rw [Yr, if_neg h0] at this
      rw [xO]
      exact this
theorem Y8 (F : Fun K "ink_text" "ink_text" vt f fd) (T : Txt P w K mg bw sw hf) (zer : Cal P w K mg base 1 "fore_of" [] (zb K Zu)) (zeq : Cal P w K mg base 1 "back_of" [] (zb K Zv)) : FnOk P w K mg base CX0 2 f fd ["ink"] (zb K Zw) := by
  exact (Ys F T zer zeq).forget fun ws O R ⟨n, e, hn, h⟩ => ⟨n, e, hn, fun O' ho => ⟨ho, h⟩⟩
theorem Ze (F : Fun K "likely_ink" "likely_ink" vK f fd) (T : Txt P w K mg bw sw hf) : FnOk P w K mg base CX0 1 f fd ["words"] (zb K JN) := by
  have nd := uP.nd
  apply F.okV uP (by rintro _ _ _ ⟨a, rfl, _⟩; rfl) (fun cdv A outer sh H E hr => (zc (zp (i := 1) nd rfl (Or.inl rfl) za)
      (zc (zp (i := 2) nd rfl (Or.inl rfl) zm)
      (zc (yG PassesOwn.never rfl (zG (K := K) rfl (pv 0)) (zo (i := 3) nd rfl (Or.inl rfl))
      (zc (zp (i := 1) nd rfl (Or.inl rfl) (ze JX (pv 1) (Z8 (K := K) (P := P) (w := w) rfl rfl rfl (yF (v := .ref bw) (u := .ref bw) rfl T.g_BITS_BY_WORD rfl) (QA.pa (qc (pv 3) (qc za qn))))))
      (zc (zI (zx (zc5 (K := K) rfl) (pv 3) (zdj rfl T.g_HUE_FIGURES) (by with_unfolding_all rfl)) (zf (zp (i := 1) nd rfl (Or.inl rfl) (ze JX (pv 1) (ze yM (zaH (K := K) rfl rfl T.g_HUE_FIGURES (QA.pa (qc (pv 3) qn))) (Z8 (K := K) (P := P) (w := w) rfl rfl rfl (yF (v := .ref sw) (u := .ref sw) rfl T.g_STEPS_BY_WORD rfl) (QA.pa (qc (pv 2) (qc za qn)))))))) zw)
      (zf (zp (i := 2) nd rfl (Or.inl rfl) (pv 3))))))
      (zf (zk (pv 1)))))))
  · walk_at "ref"
  rintro _ O R ⟨zs, rfl, h⟩
  walk_at "wd"
  have es : ∀ O' : OM, zq O' (.d (.list (zs.map PyData.str))) = some (zs.map yr) := fun O' => by
    show some (List.map W.d _) = _
    rw [List.map_map]
    rfl
  refine ⟨_, es O, ?_⟩
  refine yq.by (fun i ρ O' => O = O' ∧ ∃ v, ρ = [some (.d (.list (zs.map .str))), some (.d (.int (((zs.take i).foldl yV (0, Str.ofString "")).1 : Nat))), some (.d (.str ((zs.take i).foldl yV (0, Str.ofString "")).2)), v]) ⟨rfl, _, rfl⟩ (fun _ _ O' _ => es O') ?_ ?_
  · rintro i x _ _ hx ⟨rfl, v, rfl⟩ R2 hR2
    simp only [xy]
    generalize hr : (zs.take i).foldl yV (0, Str.ofString "") = r at *
    rw [List.getElem?_map] at hx
    cases hz : zs[i]? with
    | none => rw [hz] at hx; cases hx
    | some z =>
      rw [hz] at hx
      cases hx
      have nx : (zs.take (i + 1)).foldl yV (0, Str.ofString "") = yV r z := by
        rw [List.take_add_one, hz, List.foldl_append, hr]
        rfl
      unfold yr
      walk_at "wd"
      refine ⟨bitsD, T.d_bw, .tuple (figs.map .str), fun Z => ⟨hf, _, rfl, T.q_hf Z, ?_⟩, _, rfl, ?_, ?_⟩
      · exact vR figs
      · intro x hx
        obtain ⟨y, _, rfl⟩ := List.mem_map.1 hx
        rfl
      · rw [zcL]
        rw [zaI, XG]
        split
        · rename_i q
          have qz := of_decide_eq_true q
          obtain ⟨i1, i2⟩ := zcK z qz
          have f8 := Qd qz
          refine ⟨T.t_hf, figs, T.q_hf, uC z, i1, i2, stepsD, T.d_sw, mulL (by omega) (by omega), ?_⟩
          rw [JG, ← Int.natCast_mul, XG]
          refine hR2 _ _ ⟨rfl, some (.d (.str z)), ?_⟩
          rw [nx]
          unfold yV
          rw [if_pos qz]
        · rename_i q
          have qz : z ∉ figs := fun m => q (decide_eq_true m)
          refine hR2 _ _ ⟨rfl, some (.d (.str z)), ?_⟩
          rw [nx]
          unfold yV
          rw [if_neg qz]
  · rintro _ _ ⟨rfl, v, rfl⟩
    rw [List.length_map, List.take_length]
    walk_at "wd"
    exact .inl h
end
noncomputable def byT : PyData → Option Nat
  | .str z => if yt (lik (Txt.split z sp1)) = z then some (lik (Txt.split z sp1)) else none
  | _ => none
noncomputable def zcN : PyData → Prop
  | .str z => z.length ≤ 5000
  | _ => True
noncomputable def ku (bi : Addr) : SpX := fun ws O R Y => ∃ d, ws = [.d d] ∧ zcN d ∧ (∀ n, byT d = some n → R (.d (.int (n : Nat))) O) ∧ (byT d = none → Y bi O)
theorem za6 {w : Str} (h : ∀ c ∈ w.cps.toList, c < 128) : PyData.canLay0 (.str w) = true := by
  have : PyData.strOk w = true := by
    unfold PyData.strOk
    rw [Array.all_eq_true']
    intro c hc
    have := h c (by simpa using hc)
    simp
    omega
  simp [PyData.canLay0, this]
theorem Yt : ∀ {ws : List Str}, (∀ w ∈ ws, ∀ c ∈ w.cps.toList, c < 128) → PyData.canLayAll0 (ws.map PyData.str) = true ∧ PyData.depthAll (ws.map PyData.str) ≤ 1
  | [], _ => by simp [PyData.canLayAll0, PyData.depthAll]
  | w :: ws, h => by
    obtain ⟨h1, h2⟩ := Yt (ws := ws) fun x hx => h x (List.mem_cons_of_mem _ hx)
    have h3 := za6 (h w List.mem_cons_self)
    simp [PyData.canLayAll0, PyData.depthAll, PyData.depth, h1, h3]
    omega
theorem Y9 {ws : List Str} (h : ∀ w ∈ ws, ∀ c ∈ w.cps.toList, c < 128) : SeqAt.shaped (.list (ws.map PyData.str)) = true := by
  obtain ⟨h1, h2⟩ := Yt h
  unfold SeqAt.shaped
  rw [Bool.and_eq_true]
  refine ⟨by simpa [PyData.canLay0] using h1, decide_eq_true ?_⟩
  simp only [PyData.depth]
  omega
theorem Yu : ∀ {A B : List Str}, PyData.eqvAll (A.map PyData.str) (B.map PyData.str) = decide (A = B)
  | [], [] => by simp [PyData.eqvAll]
  | [], b :: B => by simp [PyData.eqvAll]
  | a :: A, [] => by simp [PyData.eqvAll]
  | a :: A, b :: B => by
    simp [PyData.eqvAll, PyData.eqv, Yu (A := A) (B := B)]
    by_cases e : a = b <;> simp [e]
theorem JO {A B : List Str} : PyData.eqv (.list (A.map PyData.str)) (.list (B.map PyData.str)) = decide (A = B) := by
  simp only [PyData.eqv]
  exact Yu
theorem Yv (n : Nat) : (zu n).length ≤ 5 ∧ ((zu n).map (fun x => x.length)).sum + (zu n).length ≤ 1048576 := by
  have pl : (zu n).length ≤ 5 := by
    unfold zu zW
    simp only [List.length_append]
    split <;> split <;> split <;> split <;> split <;> simp
  have pw : ∀ q ∈ zu n, q.length ≤ 20 := by
    have w1 : xQ.length ≤ 20 ∧ vg.length ≤ 20 ∧ vh.length ≤ 20 ∧ xC.length ≤ 10 ∧ vF.length ≤ 10 ∧ sp1.length ≤ 1 := by decide +kernel
    obtain ⟨w1, w2, w3, w4, w5, w6⟩ := w1
    have lf : ∀ k, (fig k).length = 1 := fun k => rfl
    intro q hq
    unfold zu zW at hq
    simp only [List.mem_append] at hq
    rcases hq with (((hq | hq) | hq) | hq) | hq <;> split at hq <;> simp at hq <;> subst hq
    · exact w1
    · exact w2
    · exact w3
    · rw [strLen_append, strLen_append, lf]; omega
    · rw [strLen_append, strLen_append, lf]; omega
  have : ∀ L : List Str, (∀ q ∈ L, q.length ≤ 20) → (L.map (·.length)).sum ≤ 20 * L.length := by
    intro L
    induction L with
    | nil => simp
    | cons a L ih =>
      intro hL
      have := ih fun q hq => hL q (List.mem_cons_of_mem _ hq)
      have := hL a List.mem_cons_self
      simp only [List.map_cons, List.sum_cons, List.length_cons]
      omega
  have := this _ pw
  exact ⟨pl, by omega⟩
theorem JP (l : List PyData) : yP 1 l = l := by simp [yP]
theorem Qw (l : List PyData) : yP 0 l = [] := by simp [yP]
noncomputable def za7 : SpW := fun ws O R => ∃ n : Nat, ws = [.d (.int n)] ∧ n < 512 ∧ ∀ O', Old O O' → R (.d (.str (yt n))) O'
noncomputable def jR : SpW := fun ws O R => ∃ n : Nat, ws = [.d (.int n)] ∧ n < 512 ∧ R (.d (.str (yt n))) O
local macro_rules | `(tactic| walk_at "postb") => `(tactic| simp only [yE, Yp, ut, zY, Option.some.injEq, exists_eq_left', List.length_map, yp])
section
variable {P : Program} {w : World} {K : PySem.W.Frag} {mg : Str → Option Value} {base : Heap} {f : Addr} {fd : FuncData} {bw sw hf : Addr} {se bp bs bi ba un : Addr}
theorem kw (F : Fun K "ink_by_text" "ink_by_text" vi f fd) (T : Txt P w K mg bw sw hf) (X : TxtX K mg se bp bs bi ba un) (zeC : Cal P w K mg base 1 "likely_ink" [] (zb K JN)) (zet : Cal P w K mg base 2 "ink_text" [] (zb K Zw)) : FnOk P w K mg base (CX1 P w) 3 f fd ["text"] (zS K (ku bi)) := by
  have nd := uo.nd
  apply F.okXV uo (by rintro _ _ _ _ ⟨d, rfl, _⟩; rfl) (fun cdv A outer sh H E hr => (zc (zI (yj (yi (zh (yA (K := K) rfl) (by rfl) T.n_isinstance (by rfl) (QA.pa (qc (pv 0) (qc (zU (v := .ty "str") (u := .type "str") rfl T.n_str rfl rfl) qn)))))) (zf (vB xm X.x_BadInk rfl rfl X.c_BadInk (QA.pa (qc zm qn)))) zw)
      (zc (zp (i := 1) nd rfl (Or.inl rfl) (zr zeC (hr.mono (by decide)) rfl (QA.pa (qc (zP (K := K) rfl PySem.F.plainAttrs_str PySem.F.slot_str_split PySem.F.type_str_split jd (pv 0) (QA.pa (qc zm qn))) qn))))
      (zc (zI (zx vp (zr zet (hr.mono (by decide)) rfl (QA.pa (qc (pv 1) qn))) (pv 0) (zD _)) (zf (vB xm X.x_BadInk rfl rfl X.c_BadInk (QA.pa (qc zm qn)))) zw)
      (zf (zk (pv 1)))))))
  · walk_at "ref"
  rintro _ O R Y ⟨d, rfl, sm, h1, h2⟩
  cases d with
  | str z =>
    walk_at "wd"
    have sm' : z.length ≤ 5000 := sm
    refine ⟨.inr (.inl ⟨rfl, _, rfl⟩), by decide +kernel, by omega, Txt.split z sp1, rfl, lik (Txt.split z sp1), rfl, zcx _, rfl, rfl, rfl, ?_⟩
    by_cases he : yt (lik (Txt.split z sp1)) = z
    · refine (iff_of_eq (if_pos (decide_eq_true (by rw [he])))).mpr (.inl (h1 _ ?_))
      simp only [byT, if_pos he]
    · refine (iff_of_eq (if_neg fun q => he ?_)).mpr (h2 ?_)
      · have := of_decide_eq_true q
        injection this
      · simp only [byT, if_neg he]
  | _ =>
    walk_at "wd"
    exact h2 rfl
theorem Yw (F : Fun K "_law_text" "_law_text" x5 f fd) (T : Txt P w K mg bw sw hf) : FnOk P w K mg base CX0 1 f fd ["_law_ink"] (zb K za7) := by
  have nd := qp.nd
  apply F.okV qp (by rintro _ _ _ ⟨a, rfl, _⟩; rfl) (fun cdv A outer sh H E hr => (zc (kN (i := 1) nd rfl rfl (yO (N := ["_law_k", "_law_ink"]) (n := 1) (js := [0])) rfl (va rfl T.n_range (QA.pa (qc za qn))) (fun _ _ _ _ => (zo (i := 0) (show List.Nodup (["_law_k", "_law_ink"] : List Str) by decide +kernel) rfl (Or.inl rfl))) (fun _ _ _ _ => (Xl (zx xq (ze zz (ze zO (pv 1) (zB (z7 (K := K) rfl) (zL (qc za (qc za (qc za qn)))) (pv 0) (fun _ _ => rfl))) za) za (zD _)))) (fun _ _ _ _ => (zB (z7 (K := K) rfl) (zL (qc zm (qc zm (qc zm qn)))) (pv 0) (fun _ _ => rfl))))
      (zc (zI (zx Zj (ze zz (pv 0) za) za (zD _)) (zf (ym (zP (K := K) rfl PySem.F.plainAttrs_list PySem.F.slot_list_append PySem.F.type_list_append yk (pv 1) (QA.pa (qc (ze yo zm (yN vS (by rfl) T.n_str rfl (QA.pa (qc (ze zz (pv 0) za) qn)))) qn))))) zw)
      (zc (zI (zx Zj (ze zz (ze zO (pv 0) za) za) za (zD _)) (zf (ym (zP (K := K) rfl PySem.F.plainAttrs_list PySem.F.slot_list_append PySem.F.type_list_append yk (pv 1) (QA.pa (qc (ze yo zm (yN vS (by rfl) T.n_str rfl (QA.pa (qc (ze zz (ze zO (pv 0) za) za) qn)))) qn))))) zw)
      (zf (zk (zP (K := K) rfl PySem.F.plainAttrs_str PySem.F.slot_str_join PySem.F.type_str_join (xN (K := K) rfl) zm (QA.pa (qc (ze (xa (K := K) rfl) (pv 1) (ze (ke (K := K) rfl) (zL (qc zm qn)) (yN Uf (by rfl) T.n_int rfl (QA.pa (qc (qu (UJ (K := K) rfl hr.units) (pv 1) (zL qn) (zD _)) qn))))) qn)))))))))
  · walk_at "ref"
  rintro _ O R ⟨n, rfl, hn, h⟩
  refine zZ (fun ρ' O' => ∃ p, ρ' = [some (.d (.int n)), some (.own p)] ∧ O' p = some (.lst ((zW n).map yr)) ∧ O p = none ∧ Old O O') (fun R1 hR1 => ?_) ?_
  · walk_at "wd"
    refine ⟨fun v => match v with | .d (.int i) => if (n : Int) / ([64, 128, 256].getD i.toNat 1) % 2 = 1 then some (.str ([xQ, vg, vh].getD i.toNat xQ)) else none | _ => none, ?_, fun p hp => hR1 _ _ ⟨p, rfl, ?_, hp, Old.upd Old.refl hp⟩⟩
    · intro a ha us hu
      obtain ⟨u, rfl⟩ := List.length_eq_one_iff.1 hu
      refine ⟨rfl, rfl, _, rfl, ?_⟩
      have e : a = 0 ∨ a = 1 ∨ a = 2 := by omega
      rcases e with rfl | rfl | rfl
      · refine ⟨_, rfl, ⟨by decide, by decide⟩, ?_⟩
        show if (n : Int) / 64 % 2 = 1 then _ else _
        by_cases c : (n : Int) / 64 % 2 = 1
        · rw [if_pos c]
          exact ⟨_, rfl, _, rfl, by show _ = Option.map W.d (if (n : Int) / 64 % 2 = 1 then some (.str xQ) else none); rw [if_pos c]; rfl⟩
        · rw [if_neg c]
          show none = Option.map W.d (if (n : Int) / 64 % 2 = 1 then some (.str xQ) else none)
          rw [if_neg c]
          rfl
      · refine ⟨_, rfl, ⟨by decide, by decide⟩, ?_⟩
        show if (n : Int) / 128 % 2 = 1 then _ else _
        by_cases c : (n : Int) / 128 % 2 = 1
        · rw [if_pos c]
          exact ⟨_, rfl, _, rfl, by show _ = Option.map W.d (if (n : Int) / 128 % 2 = 1 then some (.str vg) else none); rw [if_pos c]; rfl⟩
        · rw [if_neg c]
          show none = Option.map W.d (if (n : Int) / 128 % 2 = 1 then some (.str vg) else none)
          rw [if_neg c]
          rfl
      · refine ⟨_, rfl, ⟨by decide, by decide⟩, ?_⟩
        show if (n : Int) / 256 % 2 = 1 then _ else _
        by_cases c : (n : Int) / 256 % 2 = 1
        · rw [if_pos c]
          exact ⟨_, rfl, _, rfl, by show _ = Option.map W.d (if (n : Int) / 256 % 2 = 1 then some (.str vh) else none); rw [if_pos c]; rfl⟩
        · rw [if_neg c]
          show none = Option.map W.d (if (n : Int) / 256 % 2 = 1 then some (.str vh) else none)
          rw [if_neg c]
          rfl
    · rw [zj]
      have r3 : List.range 3 = [0, 1, 2] := rfl
      rw [r3]
      have i1 : ((n : Int) / 64 % 2 = 1) = (n / 64 % 2 = 1) := propext ⟨fun z => by omega, fun z => by omega⟩
      have i2 : ((n : Int) / 128 % 2 = 1) = (n / 128 % 2 = 1) := propext ⟨fun z => by omega, fun z => by omega⟩
      have i3 : ((n : Int) / 256 % 2 = 1) = (n / 256 % 2 = 1) := propext ⟨fun z => by omega, fun z => by omega⟩
      unfold zW
      by_cases c1 : n / 64 % 2 = 1 <;> by_cases c2 : n / 128 % 2 = 1 <;> by_cases c3 : n / 256 % 2 = 1 <;> simp [i1, i2, i3, c1, c2, c3, yr]
  rintro _ O1 ⟨p, rfl, hp, hpn, ho1⟩
  have app1 : ∀ (O' : OM) (L : List Str) (q : Str), O' p = some (.lst (L.map yr)) → L.length ≤ 10 → vD O' (.own p) (.d (.str q)) = some (updO O' p (.lst ((L ++ [q]).map yr))) := fun O' L q hO hL => by
    simp only [vD, hO]
    rw [if_pos (by rw [List.length_map]; omega), List.map_append]
    rfl
  have ml : (zW n).length ≤ 3 := by
    unfold zW
    simp only [List.length_append]
    split <;> split <;> split <;> simp
  have pre1 : Str.ofString "fore " = xC ++ sp1 := by decide +kernel
  have pre2 : Str.ofString "back " = vF ++ sp1 := by decide +kernel
  have prl : (Str.ofString "fore ").length ≤ 10 ∧ (Str.ofString "back ").length ≤ 10 := by decide +kernel
  refine zZ (fun ρ' O' => ρ' = [some (.d (.int n)), some (.own p)] ∧ Old O O' ∧ O' p = some (.lst ((zW n ++ (if n % 8 = 0 then [] else [xC ++ sp1 ++ fig (n % 8)])).map yr))) (fun R1 hR1 => ?_) ?_
  · walk_at "wd"
    have ec : (n : Int) % 8 = ((n % 8 : Nat) : Int) := by omega
    have ef := kt ⟨n % 8, by omega⟩
    simp only at ef
    rw [ec, ef]
    split
    · rename_i q
      have hq : ¬ n % 8 = 0 := by omega
      refine ⟨.inl ⟨rfl, by simp [zq, hp]⟩, by omega, by omega, by have := prl.1; rw [sizeLine_eq]; show _ + 1 ≤ _; omega, _, app1 O1 _ _ hp (by omega), hR1 _ _ ⟨rfl, ho1.upd hpn, ?_⟩⟩
      rw [zj, if_neg hq, pre1]
    · rename_i q
      refine hR1 _ _ ⟨rfl, ho1, ?_⟩
      rw [if_pos (by omega), List.append_nil]
      exact hp
  rintro _ O2 ⟨rfl, ho2, hp2⟩
  refine zZ (fun ρ' O' => ρ' = [some (.d (.int n)), some (.own p)] ∧ Old O O' ∧ O' p = some (.lst ((zu n).map yr))) (fun R1 hR1 => ?_) ?_
  · walk_at "wd"
    have ec : (n : Int) / 8 % 8 = ((n / 8 % 8 : Nat) : Int) := by omega
    have ef := kt ⟨n / 8 % 8, by omega⟩
    simp only at ef
    rw [ec, ef]
    refine ⟨⟨by decide, by decide⟩, ?_⟩
    split
    · rename_i q
      have hq : ¬ n / 8 % 8 = 0 := by omega
      refine ⟨.inl ⟨rfl, by simp [zq, hp2]⟩, ⟨by decide, by decide⟩, by omega, by omega, by have := prl.2; rw [sizeLine_eq]; show _ + 1 ≤ _; omega, _, app1 O2 _ _ hp2 (by rw [List.length_append]; split <;> simp <;> omega), hR1 _ _ ⟨rfl, ho2.upd hpn, ?_⟩⟩
      rw [zj, pre2]
      unfold zu
      rw [if_neg hq]
    · rename_i q
      refine hR1 _ _ ⟨rfl, ho2, ?_⟩
      unfold zu
      rw [if_pos (show n / 8 % 8 = 0 by omega), List.append_nil]
      exact hp2
  rintro _ O3 ⟨rfl, ho3, hp3⟩
  walk_at "wd"
  have dp : xA O3 (.own p) = some (.list ((zu n).map PyData.str)) := by
    simp only [xA, hp3]
    have : (zu n).map yr = ((zu n).map PyData.str).map W.d := by rw [List.map_map]; rfl
    rw [this, jG]
    rfl
  have sl : zq O3 (.own p) = some ((zu n).map yr) := by simp only [zq, hp3]
  have al : zX ((zu n).map yr) = some ((zu n).map PyData.str) := by
    have : (zu n).map yr = ((zu n).map PyData.str).map W.d := by rw [List.map_map]; rfl
    rw [this, zY]
  have pa : ∀ q ∈ zu n, ∀ c ∈ q.cps.toList, c < 128 := by
    have w1 : (∀ c ∈ xQ.cps.toList, c < 128) ∧ (∀ c ∈ vg.cps.toList, c < 128) ∧ (∀ c ∈ vh.cps.toList, c < 128) ∧ (∀ c ∈ xC.cps.toList, c < 128) ∧ (∀ c ∈ vF.cps.toList, c < 128) ∧ (∀ c ∈ sp1.cps.toList, c < 128) := by decide +kernel
    obtain ⟨w1, w2, w3, w4, w5, w6⟩ := w1
    have lf : ∀ k, k < 8 → ∀ c ∈ (fig k).cps.toList, c < 128 := fun k hk c hc => by
      have : c = 48 + k := by simpa [fig] using hc
      omega
    intro q hq
    unfold zu zW at hq
    simp only [List.mem_append] at hq
    rcases hq with (((hq | hq) | hq) | hq) | hq <;> split at hq <;> simp at hq <;> subst hq
    · exact w1
    · exact w2
    · exact w3
    · intro c hc
      rw [zC, zC] at hc
      simp only [List.mem_append] at hc
      rcases hc with (hc | hc) | hc
      · exact w4 c hc
      · exact w6 c hc
      · exact lf _ (by omega) c hc
    · intro c hc
      rw [zC, zC] at hc
      simp only [List.mem_append] at hc
      rcases hc with (hc | hc) | hc
      · exact w5 c hc
      · exact w6 c hc
      · exact lf _ (by omega) c hc
  have ev : PyData.eqv (.list ((zu n).map PyData.str)) (.list []) = decide (n = 0) := by
    have := JO (A := zu n) (B := [])
    rw [List.map_nil] at this
    rw [this, ← uN hn]
    cases zu n <;> rfl
  refine ⟨.inr (.inl ⟨rfl, _, rfl⟩), _, dp, _, rfl, Y9 pa, by decide, _, ut, ?_⟩
  rw [ev]
  have hl := h O3 ho3
  rw [Yr] at hl
  have jo : ∀ L, Txt.join (Str.ofString " ") L = Str.join sp1 L := fun L => xO _ _
  by_cases h0 : n = 0
  · have pn : zu n = [] := by
      have := uN hn
      rw [decide_eq_true h0] at this
      exact List.isEmpty_iff.1 this
    rw [decide_eq_true h0, if_pos rfl]
    rw [pn] at sl al
    rw [if_pos h0] at hl
    refine ⟨by decide, by decide, by decide, _, sl, _, rfl, _, al, [.str (Str.ofString "plain")], by rw [JP]; rfl, by decide, [Str.ofString "plain"], rfl, by decide +kernel, by decide +kernel, .inl ?_⟩
    rw [jo]
    exact hl
  · rw [decide_eq_false h0, if_neg (by decide)]
    rw [if_neg h0] at hl
    refine ⟨by decide, by decide, by decide, _, sl, _, rfl, _, al, [], by rw [Qw]; rfl, by have := (Yv n).1; simp; omega, zu n, by rw [List.append_nil]; show some _ = _; rw [List.map_map]; rfl, by decide +kernel, (Yv n).2, .inl ?_⟩
    rw [jo]
    exact hl
theorem Xa (F : Fun K "_law_text" "_law_text" x5 f fd) (T : Txt P w K mg bw sw hf) : FnOk P w K mg base CX0 1 f fd ["_law_ink"] (zb K jR) := by
  exact (Yw F T).forget fun ws O R ⟨n, e, hn, h⟩ => ⟨n, e, hn, fun O' ho => ⟨ho, h⟩⟩
end
section
variable {P : Program} {w : World} {K : PySem.W.Frag} {mg : Str → Option Value} {base : Heap} {f : Addr} {fd : FuncData} {bw sw hf : Addr}
theorem VW (F : Fun K "text_of" "text_of" qi f fd) (T : Txt P w K mg bw sw hf) : FnOk P w K mg base CX0 1 f fd ["row"] (zb K kc) := by
  have nd := jN.nd
  apply F.okV jN (by rintro _ _ _ ⟨n, rfl, _⟩; rfl) (fun cdv A outer sh H E hr => (zf (zk (zP (K := K) rfl PySem.F.plainAttrs_str PySem.F.slot_str_join PySem.F.type_str_join (xN (K := K) rfl) zm (QA.pa (qc (yD (yO (N := ["cell"]) (n := 1) (js := [])) rfl (zG (K := K) rfl (pv 0)) (fun _ _ _ _ => (zo (i := 0) (show List.Nodup (["cell"] : List Str) by decide +kernel) rfl (Or.inl rfl))) (fun _ _ _ _ => zV) (fun _ _ _ _ => (zB (yz (K := K) rfl) (pv 0) za (fun _ _ => rfl)))) qn))))))
  · walk_at "ref"
  rintro _ O R ⟨r, rfl, r1, hr, h⟩
  have l1 : ∀ l : List Str, (∀ x ∈ l, x.length = 1) → (l.map fun x => x.length).sum = l.length := fun l => by
    induction l with
    | nil => intro _; rfl
    | cons a l ih =>
      intro hl
      simp only [List.map_cons, List.sum_cons, ih fun x hx => hl x (List.mem_cons_of_mem _ hx), hl a List.mem_cons_self, List.length_cons]
      omega
  have e1 : (r.map zF).map W.d = r.map fun c => W.d (zF c) := by rw [List.map_map]; rfl
  walk_at "wd"
  refine ⟨.inr (.inl ⟨rfl, _, rfl⟩), r.map fun c => W.d (zF c), by simp only [yn, zq, yp, e1], by rw [List.length_map]; omega, fun v => match v with | .d (.tuple [a, _]) => some a | _ => none, ?_, r.map (fun c : Cel => c.1), ?_, by decide, ?_, .inl h⟩
  · intro w hw us hu
    obtain ⟨u, rfl⟩ := List.length_eq_one_iff.1 hu
    obtain ⟨c, hc, rfl⟩ := List.mem_map.1 hw
    exact ⟨rfl, rfl, _, rfl, _, rfl, rfl⟩
  · rw [yU r _ _ (fun c => .str c.1) (fun _ => rfl)]
    show some (List.map W.d _) = _
    rw [List.map_map, List.map_map]
    rfl
  · rw [l1 _ fun x hx => by
      obtain ⟨c, hc, rfl⟩ := List.mem_map.1 hx
      obtain ⟨k, _, _, e⟩ := hr c hc
      rw [e]; rfl]
    simp only [List.length_map]
    omega
theorem ky (F : Fun K "alike_spans" "alike_spans" vj f fd) (T : Txt P w K mg bw sw hf) : FnOk P w K mg base CX0 1 f fd ["things"] (zb K Z1) := by
  have nd := uq.nd
  apply F.okV uq (by rintro _ _ _ ⟨n, rfl, _⟩; rfl) (fun cdv A outer sh H E hr => (zc (zp (i := 1) nd rfl (Or.inl rfl) (xL qn))
      (zc (zp (i := 2) nd rfl (Or.inl rfl) za)
      (zc (yG PassesOwn.never rfl (kG rfl T.n_range (QA.pa (qc za (qc (ze zE (zh (z9 (K := K) rfl) (by rfl) T.n_len (by rfl) (QA.pa (qc (pv 0) qn))) za) qn)))) (zo (i := 3) nd rfl (Or.inl rfl))
      (zf (zI (PW.pt (xf (zx xq (pv 3) (zh (z9 (K := K) rfl) (by rfl) T.n_len (by rfl) (QA.pa (qc (pv 0) qn))) (zD _)) (y8 (zx vp (zB (z7 (K := K) rfl) (pv 0) (pv 3) (fun _ _ => rfl)) (zB (z7 (K := K) rfl) (pv 0) (pv 2) (fun _ _ => rfl)) (zD _))))) (zc (ym (zP (K := K) rfl PySem.F.plainAttrs_list PySem.F.slot_list_append PySem.F.type_list_append yk (pv 1) (QA.pa (qc (zM (qc (pv 2) (qc (pv 3) qn))) qn))))
      (zf (zp (i := 2) nd rfl (Or.inl rfl) (pv 3)))) zw)))
      (zf (zk (pv 1)))))))
  · walk_at "ref"
  rintro _ O R ⟨l, rfl, l0, l1, h⟩
  have hat : ∀ (k : Int), 0 ≤ k → k < l.length → atI ((l.map PyData.int).map W.d) k = some (.d (.int (l.getD k.toNat 0))) := fun k k0 k1 => by
    obtain ⟨n, rfl⟩ := Int.eq_ofNat_of_zero_le k0
    refine yu ?_
    rw [List.getElem?_map, List.getElem?_map, List.getD_eq_getElem?_getD, Int.toNat_natCast, List.getElem?_eq_getElem (by omega)]
    rfl
  have hlen : ∀ O, y7 O (.d (.list (l.map PyData.int))) = some l.length := fun O => by simp [y7, yp, zq]
  obtain ⟨n, hn⟩ : ∃ n, l.length = n + 1 := ⟨l.length - 1, by omega⟩
  walk_at "wd"
  refine fun p hp => ⟨_, hlen _, by omega, by omega, ?_⟩
  generalize hf : (fun j => l.getD j 0) = f at h
  have hfj : ∀ j, l.getD j 0 = f j := fun j => by rw [← hf]
  refine yq.rng (f := fun k => 1 + (k : Int)) (fun i ρ O' => Old O O' ∧ (i < l.length → ∃ v3, ρ = [some (.d (.list (l.map .int))), some (.own p), some (.d (.int (gSt f i).2)), v3] ∧ O' p = some (.lst (((gSt f i).1.map sp2).map .d))) ∧ (i = l.length → ∃ v2 v3, ρ = [some (.d (.list (l.map .int))), some (.own p), v2, v3] ∧ O' p = some (.lst (((stN f l.length).map sp2).map .d)))) ⟨Old.refl.upd hp, fun _ => ⟨_, rfl, zj⟩, fun e => by omega⟩ ?_ ?_
  · rintro i _ O2 hi ⟨ho, h1, _⟩ R2 hR2
    obtain ⟨v3, rfl, hb2⟩ := h1 hi
    have gl := (jE f i).1.le
    have g2 := (jE f i).2.1
    have e2 : ∀ w, vD O2 (.own p) w = some (updO O2 p (.lst (((gSt f i).1.map sp2).map .d ++ [w]))) := fun w => by
      simp only [vD, hb2]
      rw [if_pos (by simp only [List.length_map]; omega)]
    walk_at "wd"
    refine ⟨_, hlen _, ?_⟩
    have e3 : (1 : Int) + (i : Int) = ((i + 1 : Nat) : Int) := by omega
    split
    · rename_i e
      have e' : i = n := by omega
      subst e'
      refine ⟨.inl ⟨rfl, by simp [zq, hb2]⟩, _, e2 _, hR2 _ _ ⟨ho.upd hp, fun z => by omega, fun _ => ⟨_, _, rfl, ?_⟩⟩⟩
      rw [zj, hn]
      unfold stN
      rw [List.map_append, List.map_append, e3]
      rfl
    · rename_i e
      refine ⟨_, rfl, _, hat _ (by omega) (by omega), _, rfl, _, hat _ (by omega) (by omega), ?_⟩
      rw [e3, Int.toNat_natCast, Int.toNat_natCast, hfj, hfj]
      show if f (i + 1) = f (gSt f i).2 then _ else _
      split
      · rename_i q
        have : gSt f (i + 1) = gSt f i := by conv => lhs; unfold gSt; rw [if_pos q]
        exact hR2 _ _ ⟨ho, fun _ => ⟨_, by rw [this], by rw [this]; exact hb2⟩, fun z => by omega⟩
      · rename_i q
        have : gSt f (i + 1) = ((gSt f i).1 ++ [((gSt f i).2, i + 1, f (gSt f i).2)], i + 1) := by conv => lhs; unfold gSt; rw [if_neg q]
        refine ⟨.inl ⟨rfl, by simp [zq, hb2]⟩, _, e2 _, hR2 _ _ ⟨ho.upd hp, fun _ => ⟨_, by rw [this], ?_⟩, fun z => by omega⟩⟩
        rw [this, zj, List.map_append, List.map_append]
        rfl
  · rintro _ O2 ⟨ho, _, h2⟩
    obtain ⟨v2, v3, rfl, hb2⟩ := h2 rfl
    walk_at "wd"
    exact .inr ⟨_, _, rfl, hb2, h _ (ho.del hp)⟩
theorem Yx (F : Fun K "stretches" "stretches" ub f fd) (T : Txt P w K mg bw sw hf) (zep : Cal P w K mg base 1 "alike_spans" [] (zb K Z1)) : FnOk P w K mg base CX0 2 f fd ["row"] (zb K Zq) := by
  have nd := qj.nd
  apply F.okV qj (by rintro _ _ _ ⟨n, rfl, _⟩; rfl) (fun cdv A outer sh H E hr => (zc (zp (i := 1) nd rfl (Or.inr rfl) (yD (yO (N := ["cell"]) (n := 1) (js := [])) rfl (zG (K := K) rfl (pv 0)) (fun _ _ _ _ => (zo (i := 0) (show List.Nodup (["cell"] : List Str) by decide +kernel) rfl (Or.inl rfl))) (fun _ _ _ _ => zV) (fun _ _ _ _ => (zB (yz (K := K) rfl) (pv 0) za (fun _ _ => rfl)))))
      (zf (zk (zb5 (yO (N := ["first", "behind", "inks"]) (n := 2) (js := [1])) rfl (zG (K := K) rfl (zr zep (hr.mono (by decide)) rfl (QA.pa (qc (pv 1) qn)))) (fun _ _ _ _ => (xM (K := K) (n := 2) rfl rfl (zT (zo (i := 0) (show List.Nodup (["first", "behind", "inks"] : List Str) by decide +kernel) rfl (Or.inl rfl)) (zT (zo (i := 1) (show List.Nodup (["first", "behind", "inks"] : List Str) by decide +kernel) rfl (Or.inl rfl)) xF)))) (fun _ _ _ _ => zV) (fun _ _ _ _ => (zM (qc (pv 0) (qc (pv 1) (qc (zB (z7 (K := K) rfl) (pv 2) (pv 0) (fun _ _ => rfl)) qn))))))))))
  · walk_at "ref"
  rintro _ O R ⟨r, rfl, r0, r1, h⟩
  have e1 : (r.map zF).map W.d = r.map fun c => W.d (zF c) := by rw [List.map_map]; rfl
  refine zZ (fun ρ' O' => ∃ l : List Int, l = r.map (·.2) ∧ ρ' = [some (.d (yn r)), some (.d (.list (l.map .int)))] ∧ O = O') (fun R1 hR1 => ?_) ?_
  · walk_at "wd"
    refine ⟨r.map fun c => W.d (zF c), by simp only [yn, zq, yp, e1], by rw [List.length_map]; omega, fun v => match v with | .d (.tuple [_, a]) => some a | _ => none, ?_, ?_⟩
    · intro w hw us hu
      obtain ⟨u, rfl⟩ := List.length_eq_one_iff.1 hu
      obtain ⟨c, hc, rfl⟩ := List.mem_map.1 hw
      exact ⟨rfl, rfl, _, rfl, _, rfl, rfl⟩
    · rw [yU r _ _ (fun c => .int c.2) (fun _ => rfl)]
      exact hR1 _ _ ⟨_, rfl, by rw [List.map_map]; rfl, rfl⟩
  rintro _ _ ⟨l, el, rfl, rfl⟩
  have ll : l.length = r.length := by rw [el, List.length_map]
  have hf : (fun j => l.getD j 0) = zv r := by
    funext j
    unfold zv cA
    rw [el, List.getD_eq_getElem?_getD, List.getD_eq_getElem?_getD, List.getElem?_map]
    cases r[j]? <;> rfl
  have hat : ∀ (j : Nat), j < r.length → atI ((l.map PyData.int).map W.d) (j : Int) = some (.d (.int (zv r j))) := fun j hj => by
    refine yu ?_
    rw [el, List.getElem?_map, List.getElem?_map, List.getElem?_map, zdf hj]
    rfl
  walk_at "wd"
  refine ⟨_, rfl, by omega, by omega, fun O' ho => ?_⟩
  rw [hf, ll]
  have hm : ∀ t ∈ stN (zv r) r.length, _ := fun t ht => Xy ht
  have hl := qF (zv r) r.length
  generalize stN (zv r) r.length = L at *
  have e2 : (L.map sp2).map W.d = L.map fun t => W.d (sp2 t) := by rw [List.map_map]; rfl
  refine ⟨L.map fun t => W.d (sp2 t), by simp only [zq, yp, e2], by rw [List.length_map]; omega, fun v => match v with | .d (.tuple [.int a, .int b]) => some (.tuple [.int a, .int b, .int (zv r a.toNat)]) | _ => none, ?_, ?_⟩
  · intro w hw us hu
    obtain ⟨u0, u1, rfl⟩ : ∃ a b, us = [a, b] := by
      match us, hu with
      | [a, b], _ => exact ⟨a, b, rfl⟩
    obtain ⟨t, ht, rfl⟩ := List.mem_map.1 hw
    have := hm t ht
    exact ⟨_, rfl, rfl, _, _, rfl, _, _, rfl, rfl, rfl, rfl, _, rfl, _, hat t.1 (by omega), _, ⟨_, rfl, rfl⟩, by show 3 ≤ 1000; omega, rfl⟩
  · intro p hp
    refine .inl (h p _ (ho.new hp) (ho.upd (ho.new hp)) ?_)
    rw [zj]
    congr 3
    rw [yU L _ _ (fun t => .tuple [.int t.1, .int t.2.1, .int (zv r t.1)]) (fun _ => rfl)]
    refine List.map_congr_left fun t ht => ?_
    rw [(hm t ht).2.2]
    rfl
end
noncomputable def VX : SpW := fun ws O R => ∃ t : T3, ws = [.d (.int (t.2.1 - t.1 : Nat)), .d (.int t.2.2)] ∧ km t ∧ R (.d (.str (stT t))) O
noncomputable def zcO : SpW := fun ws O R => ∃ r : Rw6, ws = [.d (yn r)] ∧ okW r ∧ ∀ O', Old O O' → R (.d (.str (yg r))) O'
noncomputable def qK : SpW := fun ws O R => ∃ r : Rw6, ws = [.d (yn r)] ∧ okW r ∧ R (.d (.str (yg r))) O
noncomputable def VY : SpW := fun ws O R => ∃ n : Nat, ws = [.d (.str (xE n))] ∧ 1 ≤ n ∧ n ≤ 24 ∧ R (.d (.int n)) O
noncomputable def qL : SpW := fun ws O R => ∃ r : Rw6, ws = [.d (.str (yg r))] ∧ okW r ∧ ∀ p O', O p = none → Old O O' → O' p = some (.lst (((r.map (·.2)).map PyData.int).map W.d)) → R (.own p) O'
noncomputable def Zx : SpW := fun ws O R => ∃ r : Rw6, ∃ q, ws = [.d (.str (yb r)), .own q] ∧ okW r ∧ O q = some (.lst (((r.map (·.2)).map PyData.int).map W.d)) ∧ ∀ p, O p = none → R (.own p) (updO O p (.lst ((r.map zF).map W.d)))
noncomputable def VZ : SpW := fun ws O R => ∃ p : Pc, ws = [.d (.str (yy p))] ∧ x0 p ∧ ∀ a cs O', Dp O' a cs (p.map fun r => r.map zF) → R (.own a) O'
section
variable {P : Program} {w : World} {K : PySem.W.Frag} {mg : Str → Option Value} {base : Heap} {f : Addr} {fd : FuncData} {bw sw hf : Addr} {se bp bs bi ba un : Addr}
theorem jS (F : Fun K "stretch_text" "stretch_text" xT f fd) (T : Txt P w K mg bw sw hf) (zet : Cal P w K mg base 2 "ink_text" [] (zb K Zw)) : FnOk P w K mg base CX0 3 f fd ["many", "ink"] (zb K VX) := by
  have nd := vV.nd
  apply F.okV vV (by rintro _ _ _ ⟨t, rfl, _⟩; rfl) (fun cdv A outer sh H E hr => (zc (zp (i := 2) nd rfl (Or.inl rfl) (zr zet (hr.mono (by decide)) rfl (QA.pa (qc (pv 1) qn))))
      (zf (zk (U9 (pv 0) (pv 2) (by decide))))))
  · walk_at "ref"
  rintro _ O R ⟨t, rfl, ht, h⟩
  walk_at "wd"
  obtain ⟨t1, t2, t3, t4⟩ := ht
  have a := (vw ⟨t.2.1 - t.1, by omega⟩).2.1
  have b := (um ⟨t.2.2.toNat, by omega⟩).2
  simp only at a b
  refine ⟨t.2.2.toNat, by rw [Int.toNat_of_nonneg t3], by omega, by omega, Nat.le_trans a (by decide), yt t.2.2.toNat, if_pos (by omega), by omega, .inl ?_⟩
  have e : Str.empty ++ Str.ofString ((t.2.1 - t.1 : Nat) : Int).repr ++ Str.ofString ":" ++ yt t.2.2.toNat = stT t := by
    rw [kY]
    rfl
  rw [e]
  exact h
theorem Zf (F : Fun K "inks_text" "inks_text" x4 f fd) (T : Txt P w K mg bw sw hf) (zeJ : Cal P w K mg base 2 "stretches" [] (zb K Zq)) (zeI : Cal P w K mg base 3 "stretch_text" [] (zb K VX)) : FnOk P w K mg base CX0 4 f fd ["row"] (zb K zcO) := by
  have nd := ql.nd
  apply F.okV ql (by rintro _ _ _ ⟨t, rfl, _⟩; rfl) (fun cdv A outer sh H E hr => (zf (zk (zP (K := K) rfl PySem.F.plainAttrs_str PySem.F.slot_str_join PySem.F.type_str_join (xN (K := K) rfl) zm (QA.pa (qc (yD (yO (N := ["first", "behind", "ink"]) (n := 3) (js := [])) rfl (zG (K := K) rfl (zr zeJ (hr.mono (by decide)) rfl (QA.pa (qc (pv 0) qn)))) (fun _ _ _ _ => (xM (K := K) (n := 3) rfl rfl (zT (zo (i := 0) (show List.Nodup (["first", "behind", "ink"] : List Str) by decide +kernel) rfl (Or.inl rfl)) (zT (zo (i := 1) (show List.Nodup (["first", "behind", "ink"] : List Str) by decide +kernel) rfl (Or.inl rfl)) (zT (zo (i := 2) (show List.Nodup (["first", "behind", "ink"] : List Str) by decide +kernel) rfl (Or.inl rfl)) xF))))) (fun _ _ _ _ => zV) (fun _ _ _ _ => (zr zeI (hr.mono (by decide)) rfl (QA.pa (qc (ze Ub (pv 1) (pv 0)) (qc (pv 2) qn)))))) qn))))))
  · walk_at "ref"
  rintro _ O R ⟨r, rfl, hr, h⟩
  walk_at "wd"
  have ec : Str.ofString ", " = ve := rfl
  rw [ec]
  refine ⟨.inr (.inl ⟨rfl, _, rfl⟩), r, rfl, hr.1, hr.2.1, fun p O' hp ho hO' => ?_⟩
  have sl := qF (zv r) r.length
  have r1 := hr.2.1
  refine ⟨((stN (zv r) r.length).map spD).map .d, by simp only [zq, hO'], by rw [List.length_map, List.length_map]; omega, fun v => match v with | .d (.tuple [.int a, .int b, .int i]) => some (.str (stT (a.toNat, b.toNat, i))) | _ => none, ?_, (stN (zv r) r.length).map stT, ?_, by decide, ?_, .inl ?_⟩
  · intro w hw us hu
    rw [List.map_map] at hw
    obtain ⟨t, ht, rfl⟩ := List.mem_map.1 hw
    have ok := xR hr t ht
    obtain ⟨u1, u2, u3, rfl⟩ : ∃ a b c, us = [a, b, c] := by
      match us, hu with
      | [a, b, c], _ => exact ⟨a, b, c, rfl⟩
    refine ⟨_, rfl, rfl, _, _, rfl, _, _, rfl, _, _, rfl, rfl, rfl, Nat.le_refl _, ?_⟩
    have e : ((t.2.1 : Int) - (t.1 : Int)) = ((t.2.1 - t.1 : Nat) : Int) := by have := ok.1; omega
    exact ⟨t, by rw [← e], ok, rfl, by simp [spD]⟩
  · rw [List.map_map, yU (stN (zv r) r.length) (W.d ∘ spD) _ (fun t => .str (stT t)) (fun t => by simp [spD])]
    show some (List.map W.d _) = _
    rw [List.map_map, List.map_map]
    rfl
  · have := vJ ((stN (zv r) r.length).map stT) fun q hq => by
      obtain ⟨t, ht, rfl⟩ := List.mem_map.1 hq
      exact qI (xR hr t ht)
    rw [List.length_map] at this ⊢
    omega
  · rw [xO]
    exact h O' ho
theorem Yy (F : Fun K "inks_text" "inks_text" x4 f fd) (T : Txt P w K mg bw sw hf) (zeJ : Cal P w K mg base 2 "stretches" [] (zb K Zq)) (zeI : Cal P w K mg base 3 "stretch_text" [] (zb K VX)) : FnOk P w K mg base CX0 4 f fd ["row"] (zb K qK) := by
  exact (Zf F T zeJ zeI).forget fun ws O R ⟨n, e, hn, h⟩ => ⟨n, e, hn, fun O' ho => ⟨ho, h⟩⟩
theorem jT (F : Fun K "many_by_text" "many_by_text" xU f fd) (T : Txt P w K mg bw sw hf) : FnOk P w K mg base CX0 1 f fd ["text"] (zb K VY) := by
  have nd := vW.nd
  apply F.okV vW (by rintro _ _ _ ⟨t, rfl, _⟩; rfl) (fun cdv A outer sh H E hr => (zc (yG PassesOwn.never rfl (kG rfl T.n_range (QA.pa (qc za (qc (ze zE (jx rfl T.g_WIDEST) za) qn)))) (zo (i := 1) nd rfl (Or.inl rfl))
      (zf (zI (zx xq (yN vS (by rfl) T.n_str rfl (QA.pa (qc (pv 1) qn))) (pv 0) (zD _)) (zf (zk (pv 1))) zw)))
      (zf (zk za))))
  · walk_at "ref"
  rintro _ O R ⟨n, rfl, n0, n1, h⟩
  walk_at "wd"
  refine yq.rng (f := fun k => 1 + (k : Int)) (fun i ρ O' => ∃ v1, ρ = [some (.d (.str (xE n))), v1] ∧ O = O' ∧ i < n) ⟨_, rfl, rfl, by omega⟩ ?_ ?_
  · rintro i _ O' hi ⟨v1, rfl, rfl, hn⟩ R1 hR1
    have e1 : (1 + (i : Int)) = ((1 + i : Nat) : Int) := by omega
    have cmp : xE (1 + i) = xE n ↔ 1 + i = n := ⟨fun e => by have := (vw ⟨1 + i, by omega⟩).2.2 ⟨n, by omega⟩ e; simpa using this, fun e => by rw [e]⟩
    walk_at "wd"
    refine ⟨by omega, by omega, ?_⟩
    have e2 : Str.ofString (1 + (i : Int)).repr = xE (1 + i) := by unfold xE; rw [← e1]
    rw [e2]
    split
    · rename_i q
      have q := cmp.1 q
      have e3 : (1 + (i : Int)) = (n : Int) := by omega
      rw [e3]
      exact .inl h
    · rename_i q
      exact hR1 _ _ ⟨_, rfl, rfl, by have : ¬ 1 + i = n := fun z => q (cmp.2 z); omega⟩
  · rintro _ O' ⟨v1, rfl, rfl, hn⟩
    omega
theorem jU (F : Fun K "inks_by_text" "inks_by_text" xV f fd) (T : Txt P w K mg bw sw hf) (zes : CalX P w K mg base 3 "ink_by_text" [] (zS K (ku bi))) (zeF : Cal P w K mg base 1 "many_by_text" [] (zb K VY)) : FnOk P w K mg base CX0 4 f fd ["text"] (zb K qL) := by
  have nd := vX.nd
  apply F.okV vX (by rintro _ _ _ ⟨t, rfl, _⟩; rfl) (fun cdv A outer sh H E hr => (zc (zp (i := 1) nd rfl (Or.inl rfl) (xL qn))
      (zc (yG PassesOwn.never rfl (zG (K := K) rfl (zP (K := K) rfl PySem.F.plainAttrs_str PySem.F.slot_str_split PySem.F.type_str_split jd (pv 0) (QA.pa (qc zm qn)))) (zo (i := 2) nd rfl (Or.inl rfl))
      (zc (zp (i := 3) nd rfl (Or.inl rfl) (zP (K := K) rfl PySem.F.plainAttrs_str PySem.F.slot_str_partition PySem.F.type_str_partition Yc (pv 2) (QA.pa (qc zm qn))))
      (zc (zaV (fun _ _ => (zf (zp (i := 4) nd rfl (Or.inl rfl) (xG zes jw (hr.mono (by decide)) rfl (QA.pa (qc (zB (yz (K := K) rfl) (pv 3) za (fun _ _ => rfl)) qn)))))))
      (zf (ym (zP (K := K) rfl PySem.F.plainAttrs_list PySem.F.slot_list_extend PySem.F.type_list_extend Uo (pv 1) (QA.pa (qc (ze zaX (xL (qc (pv 4) qn)) (zr zeF (hr.mono (by decide)) rfl (QA.pa (qc (zB (yz (K := K) rfl) (pv 3) za (fun _ _ => rfl)) qn)))) qn))))))))
      (zf (zk (pv 1))))))
  · walk_at "ref"
  rintro _ O R ⟨r, rfl, hr, h⟩
  walk_at "wd"
  have ec : Str.ofString ", " = ve := rfl
  have eo : Str.ofString ":" = vT := rfl
  rw [ec, eo, Y1 hr]
  have il := u9 hr
  refine fun p hp => ⟨.inr (.inl ⟨rfl, _, rfl⟩), by decide, by omega, _, rfl, ?_⟩
  refine yq.by (fun i ρ O' => ∃ v2 v3 v4, ρ = [some (.d (.str (yg r))), some (.own p), v2, v3, v4] ∧ Old O O' ∧ O' p = some (.lst (((((stN (zv r) r.length).take i).flatMap fun t => List.replicate (t.2.1 - t.1) t.2.2).map PyData.int).map W.d))) ⟨_, _, _, rfl, Old.refl.upd hp, zj⟩ (fun _ _ _ _ => rfl) ?_ ?_
  · rintro i w _ O' hw ⟨v2, v3, v4, rfl, ho, hO'⟩ R1 hR1
    rw [List.getElem?_map, List.getElem?_map, List.getElem?_map] at hw
    cases ht : (stN (zv r) r.length)[i]? with
    | none => rw [ht] at hw; cases hw
    | some t =>
      rw [ht] at hw
      cases hw
      have ok := xR hr t (List.mem_of_getElem? ht)
      simp only [xy]
      refine zZ (fun ρ' O2 => ρ' = [some (.d (.str (yg r))), some (.own p), some (.d (.str (stT t))), some (.d (.tuple [.str (xE (t.2.1 - t.1)), .str vT, .str (yt t.2.2.toNat)])), v4] ∧ O' = O2) (fun R2 hR2 => ?_) ?_
      · walk_at "wd"
        rw [JK ok]
        exact ⟨.inr (.inl ⟨rfl, _, rfl⟩), by decide, by have := qI ok; omega, hR2 _ _ ⟨rfl, rfl⟩⟩
      rintro _ _ ⟨rfl, rfl⟩
      refine zZ (fun ρ' O2 => ρ' = [some (.d (.str (yg r))), some (.own p), some (.d (.str (stT t))), some (.d (.tuple [.str (xE (t.2.1 - t.1)), .str vT, .str (yt t.2.2.toNat)])), some (.d (.int t.2.2))] ∧ O' = O2) (fun R2 hR2 => ?_) ?_
      · walk_at "wd"
        have q1 := ok.2.2.1
        have q2 := ok.2.2.2
        have by_ : byT (.str (yt t.2.2.toNat)) = some t.2.2.toNat := by
          have e := zaP (n := t.2.2.toNat) (by omega)
          simp only [byT, e, if_true]
        have il' := (um ⟨t.2.2.toNat, by omega⟩).2
        refine ⟨_, rfl, _, rfl, by show (yt t.2.2.toNat).length ≤ 5000; simp only at il'; omega, fun n hn => ?_, fun hn => ?_⟩
        · rw [by_] at hn
          cases hn
          rw [Int.toNat_of_nonneg q1]
          exact hR2 _ _ ⟨rfl, rfl⟩
        · rw [by_] at hn
          cases hn
      rintro _ _ ⟨rfl, rfl⟩
      walk_at "wd"
      have t1 := ok.1
      have t2 := ok.2.1
      have ll : (((stN (zv r) r.length).take i).flatMap fun t => List.replicate (t.2.1 - t.1) t.2.2).length ≤ 24 := by
        have e := congrArg List.length (Yh (r := r))
        rw [← List.take_append_drop i (stN (zv r) r.length), List.flatMap_append, List.length_append, List.length_map] at e
        have := hr.2.1
        omega
      have nx : (((stN (zv r) r.length).take (i + 1)).flatMap fun t => List.replicate (t.2.1 - t.1) t.2.2) = (((stN (zv r) r.length).take i).flatMap fun t => List.replicate (t.2.1 - t.1) t.2.2) ++ List.replicate (t.2.1 - t.1) t.2.2 := by
        rw [List.take_add_one, ht, List.flatMap_append]
        simp
      refine ⟨.inl ⟨rfl, by simp [zq, hO']⟩, fun a ha => ⟨_, rfl, t.2.1 - t.1, rfl, by omega, by omega, [W.d (.int t.2.2)], [.int t.2.2], ((t.2.1 - t.1 : Nat) : Int), rfl, zj, rfl, by omega, by omega, by simp; omega, fun b hb => ?_⟩⟩
      have pa : p ≠ a := neO hO' ha
      have hp2 : updO O' a (.lst [W.d (.int t.2.2)]) p = some (.lst (((((stN (zv r) r.length).take i).flatMap fun t => List.replicate (t.2.1 - t.1) t.2.2).map PyData.int).map W.d)) := by rw [zi pa]; exact hO'
      have pb : p ≠ b := neO hp2 hb
      have o1 : Old O (updO O' a (.lst [W.d (.int t.2.2)])) := ho.upd (ho.new ha)
      refine ⟨_, by rw [zi pb]; exact hp2, by simp only [List.length_map, List.length_cons, List.length_nil, Int.toNat_natCast]; omega, hR1 _ _ ⟨_, _, _, rfl, (o1.upd (o1.new hb)).upd hp, ?_⟩⟩
      rw [zj, nx, List.map_append, List.map_append, Int.toNat_natCast]
      congr 3
      rw [List.map_replicate, List.map_replicate]
      generalize t.2.1 - t.1 = k
      induction k with
      | zero => rfl
      | succ k ih => rw [List.replicate_succ, List.replicate_succ, List.flatten_cons, ih]; rfl
  · rintro _ O' ⟨v2, v3, v4, rfl, ho, hO'⟩
    rw [List.length_map, List.length_map, List.length_map, List.take_length, Yh] at hO'
    walk_at "wd"
    exact .inl (h p O' hp ho hO')
theorem Zg (F : Fun K "likely_row" "likely_row" vM f fd) (T : Txt P w K mg bw sw hf) : FnOk P w K mg base CX0 1 f fd ["signs", "inks"] (zb K Zx) := by
  have nd := uR.nd
  apply F.okV uR (by rintro _ _ _ ⟨r, q, rfl, _⟩; rfl) (fun cdv A outer sh H E hr => (zf (zk (VD (K := K) rfl rfl (by rfl) T.n_list (by rfl) T.n_zip (QA.pa (qc (pv 0) (qc (pv 1) qn)))))))
  · walk_at "ref"
  rintro _ O R ⟨r, q, rfl, hr, hq, h⟩
  walk_at "wd"
  have sl := uI hr.2.2.1
  have r1 := hr.2.1
  refine ⟨_, by simp only [zq, hq], (r.map (·.2)).map PyData.int, zY _, fun i hi => (jL hr.2.2.1 (by rw [← Array.getElem_toList]; exact List.getElem_mem _)).2, by omega, by rw [List.length_map, List.length_map]; omega, fun p hp => .inl ?_⟩
  rw [zaZ hr.2.2.1]
  exact h p hp
end
noncomputable def zy (p : Pc) : List (List PyData) := p.map fun r => r.map zF
theorem Ds.old {O O' : OM} {bs : List Addr} {rows : List (List PyData)} (h : Ds O bs rows) (o : Old O O') : Ds O' bs rows := by
  obtain ⟨pr, nd⟩ := h
  refine ⟨Paired.mapP pr fun b ds e => ?_, nd⟩
  rw [o b (by rw [e]; simp)]
  exact e
theorem Yz {d : PyData} (h : cellD d = true) : ∃ c : Cel, d = zF c ∧ Js c ∧ 0 ≤ c.2 ∧ c.2 < 512 := by
  unfold cellD at h
  split at h
  · rename_i a b
    rw [Bool.and_eq_true] at h
    obtain ⟨h1, h2⟩ := h
    cases a <;> try cases h1
    cases b <;> try cases h2
    rename_i z i
    simp only [signD, Bool.and_eq_true, decide_eq_true_eq] at h1
    simp only [inkD, wholeD, Bool.and_eq_true, decide_eq_true_eq] at h2
    obtain ⟨⟨z1, z2, z3⟩, z4⟩ := h1
    obtain ⟨k, rfl⟩ := kn z1
    exact ⟨(⟨#[k]⟩, i), rfl, ⟨k, by simpa using z2, by simpa using z3, rfl⟩, h2.1, by show i < 512; omega⟩
  · cases h
theorem kz : ∀ {r : List PyData}, r.all cellD = true → ∃ s : Rw6, r = s.map zF ∧ ∀ c ∈ s, Js c ∧ 0 ≤ c.2 ∧ c.2 < 512
  | [], _ => ⟨[], rfl, by simp⟩
  | d :: r, h => by
    rw [List.all_cons, Bool.and_eq_true] at h
    obtain ⟨c, e, hc⟩ := Yz h.1
    obtain ⟨s, e2, hs⟩ := kz h.2
    refine ⟨c :: s, by rw [e, e2]; rfl, fun x hx => ?_⟩
    rcases List.mem_cons.1 hx with rfl | hx
    · exact hc
    · exact hs x hx
theorem YA {w : Nat} (w1 : 1 ≤ w) (w2 : w ≤ 24) : ∀ {rows : List (List PyData)}, (∀ r ∈ rows, r.length = w ∧ r.all cellD = true) → ∃ p : Pc, rows = zy p ∧ ∀ r ∈ p, okW r
  | [], _ => ⟨[], rfl, by simp⟩
  | r :: rows, h => by
    obtain ⟨s, e, hs⟩ := kz (h r List.mem_cons_self).2
    obtain ⟨p, e2, hp⟩ := YA w1 w2 fun x hx => h x (List.mem_cons_of_mem _ hx)
    have l := (h r List.mem_cons_self).1
    rw [e, List.length_map] at l
    refine ⟨s :: p, by rw [e, e2]; rfl, fun x hx => ?_⟩
    rcases List.mem_cons.1 hx with rfl | hx
    · exact ⟨by omega, by omega, fun c hc => (hs c hc).1, fun c hc => (hs c hc).2⟩
    · exact hp x hx
theorem PicOk.pc {rows : List (List PyData)} {w : Nat} (h : PicOk rows w) : ∃ p : Pc, rows = zy p ∧ x0 p := by
  obtain ⟨p, e, hp⟩ := YA h.w1 h.w2 h.row
  have h1 := h.h1
  have h2 := h.h2
  rw [e, zy, List.length_map] at h1 h2
  exact ⟨p, e, h1, h2, hp⟩
theorem za8 {d : PyData} (h : picB d = true) : ∃ rows w, d = pd rows ∧ PicOk rows w := by
  unfold picB at h
  split at h
  · rename_i ds rs
    rw [Bool.and_eq_true] at h
    obtain ⟨h1, h2⟩ := h
    simp only [sizeB, wholeD, Bool.and_eq_true, decide_eq_true_eq] at h1
    rw [List.all_eq_true] at h2
    have ex : ∀ l : List PyData, (∀ x ∈ l, rowB ds.length x = true) → ∃ rows : List (List PyData), l = rows.map .list ∧ ∀ r ∈ rows, r.length = ds.length ∧ r.all cellD = true := by
      intro l
      induction l with
      | nil => intro _; exact ⟨[], rfl, by simp⟩
      | cons x l ih =>
        intro hl
        obtain ⟨rows, e, hr⟩ := ih fun y hy => hl y (List.mem_cons_of_mem _ hy)
        have hx := hl x List.mem_cons_self
        cases x <;> try cases hx
        rename_i es
        simp only [rowB, Bool.and_eq_true, decide_eq_true_eq] at hx
        refine ⟨es :: rows, by rw [e]; rfl, fun r hr' => ?_⟩
        rcases List.mem_cons.1 hr' with rfl | hr'
        · exact ⟨by omega, hx.2⟩
        · exact hr r hr'
    obtain ⟨rows, e, hr⟩ := ex _ h2
    have ll : rs.length + 1 = rows.length := by
      have := congrArg List.length e
      simpa using this
    refine ⟨rows, ds.length, by rw [e]; rfl, ⟨by omega, by omega, by omega, by omega, hr⟩⟩
  · cases h
theorem JQ {a b : Cel} (h : zF a = zF b) : a = b := by
  obtain ⟨a1, a2⟩ := a
  obtain ⟨b1, b2⟩ := b
  simp only [zF, PyData.tuple.injEq, List.cons.injEq, PyData.str.injEq, PyData.int.injEq, and_true] at h
  rw [h.1, h.2]
theorem kA {α β : Type} {g : α → β} (hg : ∀ a b, g a = g b → a = b) : ∀ {l m : List α}, l.map g = m.map g → l = m
  | [], [], _ => rfl
  | [], _ :: _, h => by cases h
  | _ :: _, [], h => by cases h
  | a :: l, b :: m, h => by
    simp only [List.map_cons, List.cons.injEq] at h
    rw [hg a b h.1, kA hg h.2]
theorem kZ {p q : Pc} (h : pd (zy p) = pd (zy q)) : p = q := by
  unfold pd zy at h
  simp only [PyData.list.injEq, List.map_map] at h
  refine kA (fun a b e => ?_) h
  simp only [Function.comp, PyData.list.injEq] at e
  exact kA (fun _ _ => JQ) e
theorem zcP {ds : List PyData} {x : PyData} : yd (ds ++ [x]) none (some (-1)) = ds := by
  unfold yd
  rw [HT.sIx_none]
  have : HT.sIx (ds ++ [x]).length (ds ++ [x]).length (some (-1)) = ds.length := by
    simp [HT.sIx]
    omega
  rw [this]
  simp
noncomputable def unC (cs : List PyData) : Rw6 := cs.map fun d => match d with | .tuple [.str z, .int i] => (z, i) | _ => (noS, 0)
theorem za9 (r : Rw6) : unC (r.map zF) = r := by
  unfold unC
  rw [List.map_map]
  exact List.map_id r
noncomputable def FR (g : Rw6 → Str) : W → Option PyData := fun v => match v with | .d (.list cs) => some (.str (g (unC cs))) | _ => none
theorem YB (g : Rw6 → Str) (r : Rw6) : FR g (.d (yn r)) = some (.str (g r)) := by
  simp only [FR, yn, za9]
theorem jV (g : Rw6 → Str) (p : Pc) : (p.map fun r => W.d (yn r)).filterMap (FR g) = (p.map g).map .str := by
  rw [yU p (fun r => W.d (yn r)) _ (fun r => .str (g r)) (YB g), List.map_map]
  rfl
noncomputable def xY (bp : Addr) : SpX := fun ws O R Y => ∃ d, ws = [.d d] ∧ smD d = true ∧ (∀ p : Pc, d = pd (zy p) → x0 p → picB d = true → R (.d (.str (yy p))) O) ∧ (picB d = false → Y bp O)
noncomputable def YC : SpX := fun ws O R Y => ∃ (p : Pc) (w : Nat), ws = [.d (.str (yy p))] ∧ x0 p ∧ PicOk (zy p) w ∧ ∀ a cs O', Dp O' a cs (zy p) → R (.own a) O'
section
variable {P : Program} {w : World} {K : PySem.W.Frag} {mg : Str → Option Value} {base : Heap} {f : Addr} {fd : FuncData} {bw sw hf : Addr} {se bp bs bi ba un : Addr}
theorem qN (F : Fun K "likely_picture" "likely_picture" xh f fd) (T : Txt P w K mg bw sw hf) (zeE : Cal P w K mg base 1 "likely_row" [] (zb K Zx)) (zeu : Cal P w K mg base 4 "inks_by_text" [] (zb K qL)) : FnOk P w K mg base CX0 5 f fd ["paper"] (zb K VZ) := by
  have nd := vm.nd
  apply F.okV vm (by rintro _ _ _ ⟨t, rfl, _⟩; rfl) (fun cdv A outer sh H E hr => (zc (zp (i := 1) nd rfl (Or.inr rfl) (yw (yS (K := K) rfl) (zP (K := K) rfl PySem.F.plainAttrs_str PySem.F.slot_str_split PySem.F.type_str_split jd (pv 0) (QA.pa (qc zm qn))) yH (yI (JW Uc za))))
      (zc (zp (i := 2) nd rfl (Or.inr rfl) (ze zO (zh (z9 (K := K) rfl) (by rfl) T.n_len (by rfl) (QA.pa (qc (pv 1) qn))) za))
      (zf (zk (zck (yO (N := ["row", "rows", "high"]) (n := 1) (js := [1, 2])) rfl (va rfl T.n_range (QA.pa (qc (pv 2) qn))) (fun _ _ _ _ => (zo (i := 0) (show List.Nodup (["row", "rows", "high"] : List Str) by decide +kernel) rfl (Or.inl rfl))) (fun _ _ _ _ => zV) (fun _ _ _ _ => (zr zeE (hr.mono (by decide)) rfl (QA.pa (qc (zB (z7 (K := K) rfl) (pv 1) (pv 0) (fun _ _ => rfl)) (qc (zr zeu (hr.mono (by decide)) rfl (QA.pa (qc (zB (z7 (K := K) rfl) (pv 1) (ze zE (pv 2) (pv 0)) (fun _ _ => rfl)) qn))) qn)))))))))))
  · walk_at "ref"
  rintro _ O R ⟨p, rfl, hp, h⟩
  have en : Str.ofString "\n" = nl := rfl
  have pl := Qm hp
  have sp := Y2 hp
  have ll : (zH p).length = 2 * p.length := by unfold zH; rw [List.length_append, List.length_map, List.length_map]; omega
  have h2 := hp.2.1
  refine x3 (fun ρ' O' => ρ' = [some (.d (.str (yy p))), some (.d (.list ((zH p).map .str))), some (.d (.int p.length))] ∧ O = O') (fun R1 hR1 => ?_) ?_
  · walk_at "wd"
    rw [en, sp, List.map_append]
    refine ⟨.inr (.inl ⟨rfl, _, rfl⟩), by decide, by omega, _, rfl, _, zY _, ?_⟩
    rw [show List.map PyData.str [noS] = [PyData.str noS] from rfl, zcP]
    refine ⟨_, yE, ⟨by decide, by decide⟩, ?_⟩
    rw [List.length_map, ll, show (((2 * p.length : Nat)) : Int) / 2 = (p.length : Int) by omega]
    exact hR1 _ _ ⟨rfl, rfl⟩
  rintro _ _ ⟨rfl, rfl⟩
  walk_at "wd"
  refine ⟨by omega, by omega, fun i vs O' => ∃ cs, vs = cs.map W.own ∧ Ds O' cs ((zy p).take i), ⟨[], rfl, .nil⟩, ?_, ?_⟩
  · rintro i _ _ O' x hx rfl ⟨cs, rfl, ds⟩ us hu
    obtain ⟨u, rfl⟩ := List.length_eq_one_iff.1 hu
    obtain ⟨hi, e⟩ := List.getElem?_eq_some_iff.1 hx
    simp only [List.length_range] at hi
    rw [List.getElem_range] at e
    subst e
    have hr : p[i]? = some p[i] := List.getElem?_eq_getElem hi
    generalize p[i] = r at hr
    have ok := hp.2.2 r (List.mem_of_getElem? hr)
    have l1 : (((zH p).map PyData.str).map W.d)[i]? = some (.d (.str (yb r))) := by
      rw [List.getElem?_map, List.getElem?_map, zH, List.getElem?_append_left (by simpa using hi), List.getElem?_map, hr]
      rfl
    have l2 : (((zH p).map PyData.str).map W.d)[p.length + i]? = some (.d (.str (yg r))) := by
      rw [List.getElem?_map, List.getElem?_map, zH, List.getElem?_append_right (by simp), List.getElem?_map, List.length_map, Nat.add_sub_cancel_left, hr]
      rfl
    have l3 : (zy p)[i]? = some (r.map zF) := by rw [zy, List.getElem?_map, hr]; rfl
    refine ⟨rfl, rfl, ?_⟩
    show ∃ ws, zq O' (.d (.list ((zH p).map .str))) = some ws ∧ ∃ w2, atI ws (i : Int) = some w2 ∧ ∃ ws, zq O' (.d (.list ((zH p).map .str))) = some ws ∧ ∃ w, atI ws ((p.length : Int) + (i : Int)) = some w ∧ qL [w] O' fun y O1 => Zx [w2, y] O1 fun y O3 => ∃ cs', cs.map W.own ++ [y] = cs'.map W.own ∧ Ds O3 cs' ((zy p).take (i + 1))
    refine ⟨_, rfl, .d (.str (yb r)), yu l1, _, rfl, .d (.str (yg r)), ?_, r, rfl, ok, fun q O1 hq ho hO1 => ⟨r, q, rfl, ok, hO1, fun b hb => ⟨cs ++ [b], by simp, ?_⟩⟩⟩
    · have := yu l2
      rw [show ((p.length + i : Nat) : Int) = (p.length : Int) + (i : Int) by omega] at this
      exact this
    · rw [List.take_add_one, l3]
      exact (ds.old ho).snoc hb _
  · rintro _ O' ⟨cs, rfl, ds⟩ a ha
    rw [List.take_of_length_le (by simp [zy])] at ds
    exact .inl (h a cs _ (ds.full ha))
theorem Xb (F : Fun K "paper_of" "paper_of" uL f fd) (T : Txt P w K mg bw sw hf) (zeG : CalX P w K mg base 6 "need_picture" [] (zS K (VR bp))) (zeK : Cal P w K mg base 1 "text_of" [] (zb K kc)) (zev : Cal P w K mg base 4 "inks_text" [] (zb K qK)) : FnOk P w K mg base (CX1 P w) 7 f fd ["picture"] (zS K (xY bp)) := by
  have nd := qR.nd
  apply F.okXV qR (by rintro _ _ _ _ ⟨d, rfl, _⟩; rfl) (fun cdv A outer sh H E hr => (zc (ym (xG zeG xm.passes (hr.mono (by decide)) rfl (QA.pa (qc (pv 0) qn))))
      (zc (zp (i := 1) nd rfl (Or.inl rfl) (ze (xa (K := K) rfl) (yD (yO (N := ["row"]) (n := 1) (js := [])) rfl (zG (K := K) rfl (pv 0)) (fun _ _ _ _ => (zo (i := 0) (show List.Nodup (["row"] : List Str) by decide +kernel) rfl (Or.inl rfl))) (fun _ _ _ _ => zV) (fun _ _ _ _ => (zr zeK (hr.mono (by decide)) rfl (QA.pa (qc (pv 0) qn))))) (yD (yO (N := ["row"]) (n := 1) (js := [])) rfl (zG (K := K) rfl (pv 0)) (fun _ _ _ _ => (zo (i := 0) (show List.Nodup (["row"] : List Str) by decide +kernel) rfl (Or.inl rfl))) (fun _ _ _ _ => zV) (fun _ _ _ _ => (zr zev (hr.mono (by decide)) rfl (QA.pa (qc (pv 0) qn)))))))
      (zf (zk (zP (K := K) rfl PySem.F.plainAttrs_str PySem.F.slot_str_join PySem.F.type_str_join (xN (K := K) rfl) zm (QA.pa (qc (yD (yO (N := ["row"]) (n := 1) (js := [])) rfl (zG (K := K) rfl (pv 1)) (fun _ _ _ _ => (zo (i := 0) (show List.Nodup (["row"] : List Str) by decide +kernel) rfl (Or.inl rfl))) (fun _ _ _ _ => zV) (fun _ _ _ _ => (ze yo (pv 0) zm))) qn))))))))
  · walk_at "ref"
  rintro _ O R Y ⟨d, rfl, sm, h1, h2⟩
  refine zZ (fun ρ' O' => ∃ p : Pc, d = pd (zy p) ∧ x0 p ∧ picB d = true ∧ ρ' = [some (.d d), none] ∧ O = O') (fun R1 hR1 => ?_) ?_
  · walk_at "wd"
    refine ⟨d, rfl, sm, fun hb => ?_, h2⟩
    obtain ⟨rows, x, e, ok⟩ := za8 hb
    obtain ⟨p, e2, ok2⟩ := ok.pc
    exact hR1 _ _ ⟨p, by rw [e, e2], ok2, hb, rfl, rfl⟩
  rintro _ _ ⟨p, rfl, hp, hb, rfl, rfl⟩
  have es : ∀ O' : OM, zq O' (.d (pd (zy p))) = some (p.map fun r => W.d (yn r)) := fun O' => by
    show some (List.map W.d _) = _
    unfold zy
    rw [List.map_map, List.map_map]
    rfl
  have p2 := hp.2.1
  refine zZ (fun ρ' O' => ρ' = [some (.d (pd (zy p))), some (.d (.list ((zH p).map .str)))] ∧ O = O') (fun R1 hR1 => ?_) ?_
  · walk_at "wd"
    refine ⟨_, es O, by rw [List.length_map]; omega, FR yb, ?_, _, es O, by rw [List.length_map]; omega, FR yg, ?_, _, rfl, _, rfl, _, zY _, _, zY _, ?_, ?_⟩
    · intro w hw us hu
      obtain ⟨u, rfl⟩ := List.length_eq_one_iff.1 hu
      obtain ⟨r, hr, rfl⟩ := List.mem_map.1 hw
      have ok := hp.2.2 r hr
      refine ⟨rfl, rfl, r, rfl, ok.2.1, ok.2.2.1, rfl, ?_⟩
      rw [YB, xO]
      rfl
    · intro w hw us hu
      obtain ⟨u, rfl⟩ := List.length_eq_one_iff.1 hu
      obtain ⟨r, hr, rfl⟩ := List.mem_map.1 hw
      have ok := hp.2.2 r hr
      refine ⟨rfl, rfl, r, rfl, ok, rfl, ?_⟩
      rw [YB]
      rfl
    · rw [jV, jV]
      simp only [List.length_map]
      omega
    · refine hR1 _ _ ⟨?_, rfl⟩
      rw [jV, jV, ← List.map_append]
      rfl
  rintro _ _ ⟨rfl, rfl⟩
  have ls := kX hp
  walk_at "wd"
  have es2 : zq O (.d (.list ((zH p).map .str))) = some ((zH p).map fun z => W.d (.str z)) := by
    show some (List.map W.d _) = _
    rw [List.map_map]
    rfl
  refine ⟨.inr (.inl ⟨rfl, _, rfl⟩), _, es2, by rw [List.length_map]; omega, fun v => match v with | .d (.str z) => some (.str (z ++ nl)) | _ => none, ?_, (zH p).map (· ++ nl), ?_, by decide, ?_, .inl ?_⟩
  · intro w hw us hu
    obtain ⟨u, rfl⟩ := List.length_eq_one_iff.1 hu
    obtain ⟨z, hz, rfl⟩ := List.mem_map.1 hw
    have zl := (qb hp hz).2
    refine ⟨rfl, rfl, z, rfl, ?_, rfl⟩
    have : (Str.ofString "\n").length = 1 := rfl
    rw [this, sizeLine_eq]
    omega
  · rw [yU (zH p) (fun z => W.d (.str z)) _ (fun z => .str (z ++ nl)) (fun _ => rfl)]
    show some (List.map W.d _) = _
    rw [List.map_map, List.map_map]
    rfl
  · rw [List.length_map]
    omega
  · rw [xO]
    exact h1 p rfl hp hb
theorem Zh (F : Fun K "picture_of" "picture_of" vN f fd) (T : Txt P w K mg bw sw hf) (X : TxtX K mg se bp bs bi ba un) (zeD : Cal P w K mg base 5 "likely_picture" [] (zb K VZ)) (c_is_picture : Cal P w K mg base 5 "is_picture" [] (zb K Zs)) (c_paper_of : CalX P w K mg base 7 "paper_of" [] (zS K (xY bp))) : FnOk P w K mg base (CX1 P w) 8 f fd ["paper"] (zS K YC) := by
  have nd := uS.nd
  have c_is_picture := c_is_picture.lend
  have c_paper_of := c_paper_of.lend
  apply F.okXV uS (by rintro _ _ _ _ ⟨p, w, rfl, _⟩; rfl) (fun cdv A outer sh H E hr => (zc (zI (yj (yi (zh (yA (K := K) rfl) (by rfl) T.n_isinstance (by rfl) (QA.pa (qc (pv 0) (qc (zU (v := .ty "str") (u := .type "str") rfl T.n_str rfl rfl) qn)))))) (zf (vB xm X.x_BadPaper rfl rfl X.c_BadPaper (QA.pa (qc zm qn)))) zw)
      (zc (zp (i := 1) nd rfl (Or.inl rfl) (zr zeD (hr.mono (by decide)) rfl (QA.pa (qc (pv 0) qn))))
      (zc (zI (PW.pt (xf (yj (yi (zr c_is_picture (hr.mono (by decide)) rfl (QA.pa (qc (pv 1) qn))))) (y8 (zx vp (xG c_paper_of jw (hr.mono (by decide)) rfl (QA.pa (qc (pv 1) qn))) (pv 0) (zD _))))) (zf (vB xm X.x_BadPaper rfl rfl X.c_BadPaper (QA.pa (qc zm qn)))) zw)
      (zf (zk (pv 1)))))))
  · walk_at "ref"
  rintro _ O R Y ⟨p, w, rfl, hp, hw, h⟩
  walk_at "wd"
  refine ⟨p, rfl, hp, fun a cs O' dp => ?_⟩
  have dw : xD O' [.own a] = some [pd (zy p)] := by simp only [xD, dp.deep]; rfl
  refine ⟨_, dw, _, rfl, hw.sm, _, rfl, rfl, ?_⟩
  rw [hw.pic]
  simp only [if_true]
  refine ⟨_, dw, _, rfl, hw.sm, fun q e ok pb => ⟨_, rfl, rfl, ?_⟩, fun z => ?_⟩
  · cases kZ e
    refine ⟨rfl, rfl, rfl, (iff_of_eq (if_pos (decide_eq_true (by rfl)))).mpr ?_⟩
    exact .inl (h a cs O' dp)
  · rw [hw.pic] at z
    cases z
end
theorem XQ {n : Nat} : ∀ {ds : List PyData}, (∀ d ∈ ds, PyData.canLay0 d = true ∧ PyData.depth d ≤ n ∧ PyData.eqv d d = true) → PyData.canLayAll0 ds = true ∧ PyData.depthAll ds ≤ n ∧ PyData.eqvAll ds ds = true
  | [], _ => by simp [PyData.canLayAll0, PyData.depthAll, PyData.eqvAll]
  | d :: ds, h => by
    obtain ⟨a1, a2, a3⟩ := h d List.mem_cons_self
    obtain ⟨b1, b2, b3⟩ := XQ (n := n) (ds := ds) fun x hx => h x (List.mem_cons_of_mem _ hx)
    simp [PyData.canLayAll0, PyData.depthAll, PyData.eqvAll, a1, a3, b1, b3]
    omega
theorem YD {n : Nat} {ds : List PyData} (h : ∀ d ∈ ds, PyData.canLay0 d = true ∧ PyData.depth d ≤ n ∧ PyData.eqv d d = true) : PyData.canLay0 (.list ds) = true ∧ PyData.depth (.list ds) ≤ n + 1 ∧ PyData.eqv (.list ds) (.list ds) = true := by
  obtain ⟨a, b, c⟩ := XQ h
  simp [PyData.canLay0, PyData.depth, PyData.eqv, a, c]
  omega
theorem JR {d : PyData} (h : cellD d = true) : PyData.canLay0 d = true ∧ PyData.depth d ≤ 3 ∧ PyData.eqv d d = true := by
  unfold cellD at h
  split at h
  · rename_i a b
    rw [Bool.and_eq_true] at h
    obtain ⟨h1, h2⟩ := h
    cases a <;> try cases h1
    cases b <;> try cases h2
    rename_i z i
    simp only [signD, Bool.and_eq_true, decide_eq_true_eq] at h1
    obtain ⟨c, rfl⟩ := kn h1.1.1
    have hc : c ≤ 126 := h1.1.2.2
    have : PyData.strOk ⟨#[c]⟩ = true := by
      unfold PyData.strOk
      simp
      omega
    simp [PyData.canLay0, PyData.canLayAll0, PyData.depth, PyData.depthAll, PyData.eqv, PyData.eqvAll, this]
  · cases h
theorem YE {rows : List (List PyData)} (h : ∀ r ∈ rows, r.all cellD = true) : SeqAt.shaped (pd rows) = true ∧ PyData.eqv (pd rows) (pd rows) = true := by
  obtain ⟨a, b, c⟩ := YD (n := 4) (ds := rows.map PyData.list) fun d hd => by
    obtain ⟨r, hr, rfl⟩ := List.mem_map.1 hd
    exact YD fun x hx => JR (List.all_eq_true.1 (h r hr) x hx)
  refine ⟨?_, c⟩
  unfold SeqAt.shaped
  rw [Bool.and_eq_true]
  exact ⟨a, decide_eq_true (by show PyData.depth (.list _) ≤ 64; omega)⟩
theorem XR (O : OM) (ds : List PyData) : zq O (.d (.list ((ds.map W.d).filterMap fun _ => some (.bool true)))) = some ((ds.map fun _ => true).map fun b => W.d (.bool b)) := by
  rw [yU ds W.d _ (fun _ => PyData.bool true) (fun _ => rfl)]
  show some (List.map W.d _) = _
  rw [List.map_map, List.map_map]
  rfl
theorem YF {ds : List PyData} : ¬ false ∈ ds.map fun _ => true := fun h => by
  obtain ⟨_, _, e⟩ := List.mem_map.1 h
  cases e
noncomputable def YG : SpW := fun ws O R => ∃ p cs rows, ∃ w : Nat, ws = [.own p, .d (pd rows)] ∧ Dp O p cs rows ∧ PicOk rows w ∧ ∀ O', R (.d (.bool true)) O'
noncomputable def YH : SpW := fun ws O R => ∃ d, ws = [.d d] ∧ smD d = true ∧ picB d = false ∧ R (.d (.bool true)) O
local macro_rules | `(tactic| walk_at "rd") => `(tactic| simp [QW, ZS, QT, tBM, Zz, tOp, rI, rI0, rU, tUn, jY, tC, L2.start, jZ, XW, X3, qU, vQ, xv, xu, uW, tCB, XV, jq, XT, zdl, XU, ZD, Qy, tOr, Qz, tB, rEq, rNe, uV, X5, ZH, ZJ, tIf, and_assoc, zaD, zaE, qw])
section
variable {P : Program} {w : World} {K : PySem.W.Frag} {mg : Str → Option Value} {base : Heap} {f : Addr} {fd : FuncData} {bw sw hf : Addr} {se bp bs bi ba un : Addr}
theorem kB (F : Fun K "_law_refused" "_law_refused" xX f fd) (T : Txt P w K mg bw sw hf) (X : TxtX K mg se bp bs bi ba un) (c_paper_of : CalX P w K mg base 7 "paper_of" [] (zS K (xY bp))) : FnOk P w K mg base CX0 8 f fd ["_law_thing"] (zb K YH) := by
  have nd := vZ.nd
  refine F.ok vZ (fun vs H Q E h => ?_) (fun cdv A outer sh H vs Q E hr h => ?_)
  · obtain ⟨Γ, O, ws, R, S1, r, ⟨d, rfl, _⟩, _⟩ := h
    rw [← Paired.length r]
    rfl
  · obtain ⟨Γ, O, ws, R, S1, r, ⟨d, rfl, sm, pb, hR⟩, kk⟩ := h
    let Y : YK := fun C O' => C = bp ∧ O = O'
    refine ⟨_, zc (zbD (W := fun cc _ H1 => ∃ C Γ' O', cc = .ref C ∧ Le Γ Γ' ∧ Sim K Γ' O' H1 ∧ Y C O') (G := fun rt => ∀ Γ' O' H1 H2, Le Γ Γ' → Sim K Γ' O' H1 → Same H1 H2 → O = O' → rt (.bl true) H2) (N := 3) (i := 1) rfl nd rfl rfl rfl X.c_ScreenError (fun C H1 z => ?hx)
      (fun pins Z L => zf (ym (xG c_paper_of L.passes (hr.mono (by decide)) rfl (QA.pa (qc (pv 0) qn)))))
      ?hs) (zf (zk yR)), ?_⟩
    case hx =>
      obtain ⟨C', Γ', O', e, _, _, hY⟩ := z
      cases e
      obtain ⟨rfl, _⟩ := hY
      exact X.p_se
    case hs =>
      intro pins e CC oe H1 rt hw he hm hc hd g
      obtain ⟨C', Γ', O', ec, hle, hsim, hY⟩ := hw
      cases ec
      obtain ⟨rfl, hold⟩ := hY
      refine ⟨_, (zc (zp (i := 2) nd rfl (Or.inl rfl) (zL (qc (zh (yW X.y_BadPicture (List.mem_append_right _ hm) hc hd) (by rfl) T.n_isinstance (by rfl) (QA.pa (qc (pv 1) (qc (yF (v := .ref bs) (by rfl) X.c_BadSize (by rfl)) qn)))) (qc (zh (yW X.y_BadPicture (List.mem_append_right _ hm) hc hd) (by rfl) T.n_isinstance (by rfl) (QA.pa (qc (pv 1) (qc (yF (v := .ref bi) (by rfl) X.c_BadInk (by rfl)) qn)))) (qc (zh (yW X.y_BadPicture (List.mem_append_right _ hm) hc hd) (by rfl) T.n_isinstance (by rfl) (QA.pa (qc (pv 1) (qc (yF (v := .ref ba) (by rfl) X.c_BadPaper (by rfl)) qn)))) qn)))))
        (zc (ym (X6 PySem.F.plainAttrs_list PySem.F.slot_list_append PySem.F.type_list_append yk (pv 2) (QA.pa (qc (zh (yW X.y_BadPicture (List.mem_append_right _ hm) hc hd) (by rfl) T.n_isinstance (by rfl) (QA.pa (qc (pv 1) (qc (yF (v := .ref un) (by rfl) X.c_Unlike (by rfl)) qn)))) qn))))
        (zf (zk (y9 (zh (yW X.y_BadPicture (List.mem_append_right _ hm) hc hd) (by rfl) T.n_isinstance (by rfl) (QA.pa (qc (pv 1) (qc (yF (v := .ref CC) (by rfl) X.c_BadPicture (by rfl)) qn)))) (y9 (zh (yW X.y_BadPicture (List.mem_append_right _ hm) hc hd) (by rfl) T.n_isinstance (by rfl) (QA.pa (qc (pv 1) (qc (zU (v := .ty "ValueError") (u := .type "ValueError") (by rfl) X.n_ve (by rfl) (by rfl)) qn)))) (x9 (qu ZL yR (pv 2) (by with_unfolding_all rfl))))))))), ?_⟩
      refine Xn (fun σ' H2 => ∃ r, σ' = [none, some (.ref e), some (.ref r)] ∧ Same H1 H2 ∧ H1 r = none ∧ H2 r = some (.lst ([false, false, false].map V.bl))) (fun R hR => ?_) ?_
      · refine ⟨_, rfl, .inl ⟨_, _, rfl, X.p_bs, ?_⟩⟩
        refine ⟨_, rfl, .inl ⟨_, _, rfl, X.p_bi, ?_⟩⟩
        refine ⟨_, rfl, .inl ⟨_, _, rfl, X.p_ba, ?_⟩⟩
        exact ⟨by show (3 : Nat) ≤ sizeLine; decide, fun p hp => hR _ _ ⟨p, rfl, yx hp, hp, zg⟩⟩
      rintro _ H2 ⟨r2, rfl, hs2, hrn, hr2⟩
      refine Xn (fun σ' H3 => σ' = [none, some (.ref e), some (.ref r2)] ∧ Same H1 H3 ∧ H3 r2 = some (.lst ([false, false, false, false].map V.bl))) (fun R hR => ?_) ?_
      · walk_at "rd"
        exact ⟨.inl ⟨rfl, _, SqL.of hr2⟩, .inl ⟨X.p_un, _, hr2, by show (3 : Nat) < sizeLine; decide, hR _ _ ⟨rfl, vz hs2 hrn, zg⟩⟩⟩
      rintro _ H3 ⟨rfl, hs3, hr3⟩
      walk_at "rd"
      exact .inr ⟨X.p_bp, .inr ⟨X.p_ve, r2, _, rfl, .inl (SqL.of hr3), rfl, rfl, g Γ' O' H1 H3 hle hsim hs3 hold⟩⟩
    · show jZ (QW _ _) _ _ _ _
      refine ⟨?_, fun Γ' O' H1 H2 hle hsim hsm hold => ?_⟩
      · have rf : ∀ T, yZ K (fun E => jq (xv (zS K (xY bp)) [] E (xu (jY 0) uW))) T → T Y { nx := fun _ _ => False, rt := fun _ _ => False } (yT ["_law_thing", "error", "_law_kinds"] [.d d]) O → _ := fun T hT h => hT (fun cc x H1 => ∃ C Γ' O', cc = Value.ref C ∧ Le Γ Γ' ∧ Sim K Γ' O' H1 ∧ Y C O') Y Γ O H _ _ { nx := Zz (tC (V.bl false)) { nx := fun _ H' => Q V.non H', rt := Q }, rt := Q } _ S1 (xx r) (fun Γ' O' H' C l S' y => ⟨C, Γ', O', rfl, l, S', y⟩) h ⟨fun _ _ _ _ _ _ _ _ z => z.elim, fun _ _ _ _ _ _ _ _ z => z.elim, fun _ _ _ _ _ _ _ _ z => z.elim, fun _ _ _ _ _ _ _ _ z => z.elim⟩
        apply rf
        · walk_at "ref"
        walk_at "wd"
        exact ⟨d, rfl, sm, fun p e ok pb' => (by rw [pb] at pb'; cases pb'), fun _ => ⟨rfl, rfl⟩⟩
      · refine kk Γ' O' H2 _ _ hle (hsim.grow hsm) yL ?_
        rw [← hold]
        exact hR
theorem V0 (F : Fun K "_law_own" "_law_own" uM f fd) (T : Txt P w K mg bw sw hf) (zeo : Cal P w K mg base 1 "_law_whole" [] (zb K ko)) : FnOk P w K mg base CX0 2 f fd ["_law_found", "_law_due"] (zb K YG) := by
  have nd := qS.nd
  apply F.okV qS (by rintro _ _ _ ⟨a, b, c, d, rfl, _⟩; rfl) (fun cdv A outer sh H E hr => (zc (zI (PW.pt (xf (yj (yi (zh (U4 (K := K) rfl) (by rfl) T.n_isinstance (by rfl) (QA.pa (qc (pv 0) (qc (zU (v := .ty "list") (u := .type "list") rfl T.n_list rfl rfl) qn)))))) (y8 (zx (UK (K := K) rfl hr.units) (pv 0) (pv 1) (zD _))))) (zf (zk yR)) zw)
      (zc (yG PassesOwn.never rfl (zG (K := K) rfl (pv 0)) (zo (i := 2) nd rfl (Or.inl rfl))
      (zc (zI (PW.pt (xf (yj (yi (zh (U4 (K := K) rfl) (by rfl) T.n_isinstance (by rfl) (QA.pa (qc (pv 2) (qc (zU (v := .ty "list") (u := .type "list") rfl T.n_list rfl rfl) qn)))))) (y8 (yj (yi (zh (jC (K := K) rfl rfl) (by rfl) T.n_all (by rfl) (QA.pa (qc (yD (yO (N := ["_law_cell"]) (n := 1) (js := [])) rfl (zG (K := K) rfl (pv 2)) (fun _ _ _ _ => (zo (i := 0) (show List.Nodup (["_law_cell"] : List Str) by decide +kernel) rfl (Or.inl rfl))) (fun _ _ _ _ => zV) (fun _ _ _ _ => (zh (yA (K := K) rfl) (by rfl) T.n_isinstance (by rfl) (QA.pa (qc (pv 0) (qc (zU (v := .ty "tuple") (u := .type "tuple") rfl T.n_tuple rfl rfl) qn)))))) qn)))))))) (zf (zk yR)) zw)
      (zc (zI (yj (yi (zh (jC (K := K) rfl rfl) (by rfl) T.n_all (by rfl) (QA.pa (qc (yD (yO (N := ["_law_cell"]) (n := 1) (js := [])) rfl (zG (K := K) rfl (pv 2)) (fun _ _ _ _ => (zo (i := 0) (show List.Nodup (["_law_cell"] : List Str) by decide +kernel) rfl (Or.inl rfl))) (fun _ _ _ _ => zV) (fun _ _ _ _ => (y9 (zh (yA (K := K) rfl) (by rfl) T.n_isinstance (by rfl) (QA.pa (qc (zB (yz (K := K) rfl) (pv 0) za (fun _ _ => rfl)) (qc (zU (v := .ty "str") (u := .type "str") rfl T.n_str rfl rfl) qn)))) (x9 (zr zeo (hr.mono (by decide)) rfl (QA.pa (qc (zB (yz (K := K) rfl) (pv 0) za (fun _ _ => rfl)) qn))))))) qn))))) (zf (zk yR)) zw)
      (zf (ym (zP (K := K) rfl PySem.F.plainAttrs_list PySem.F.slot_list_append PySem.F.type_list_append yk (pv 2) (QA.pa (qc jp qn))))))))
      (zf (zk (qu (UJ (K := K) rfl hr.units) (yD (yO (N := ["_law_row"]) (n := 1) (js := [])) rfl (zG (K := K) rfl (pv 0)) (fun _ _ _ _ => (zo (i := 0) (show List.Nodup (["_law_row"] : List Str) by decide +kernel) rfl (Or.inl rfl))) (fun _ _ _ _ => zV) (fun _ _ _ _ => (zh (z9 (K := K) rfl) (by rfl) T.n_len (by rfl) (QA.pa (qc (pv 0) qn))))) (yD (yO (N := ["_law_row"]) (n := 1) (js := [])) rfl (zG (K := K) rfl (pv 1)) (fun _ _ _ _ => (zo (i := 0) (show List.Nodup (["_law_row"] : List Str) by decide +kernel) rfl (Or.inl rfl))) (fun _ _ _ _ => zV) (fun _ _ _ _ => (ze zE (zh (z9 (K := K) rfl) (by rfl) T.n_len (by rfl) (QA.pa (qc (pv 0) qn))) za))) (zD _)))))))
  · walk_at "ref"
  rintro _ O R ⟨p, cs, rows, wd, rfl, dp, ok, h⟩
  obtain ⟨hsh, heq⟩ := YE fun r hr => (ok.row r hr).2
  have l1 : rows.length ≤ 500 := by have := ok.h2; omega
  have l2 : ∀ r ∈ rows, r.length ≤ 500 := fun r hr => by have := (ok.row r hr).1; have := ok.w2; omega
  refine zZ (fun ρ' O' => ρ' = [some (.own p), some (.d (pd rows)), none] ∧ O = O') (fun R1 hR1 => ?_) ?_
  · walk_at "wd"
    refine ⟨⟨_, dp.at_⟩, _, dp.deep, _, rfl, hsh, hsh, ?_⟩
    rw [if_pos heq]
    exact hR1 _ _ ⟨rfl, rfl⟩
  rintro _ _ ⟨rfl, rfl⟩
  have lc : cs.length = rows.length := Paired.length dp.ds.pr
  refine zZ (fun ρ' O' => ∃ v, ρ' = [some (.own p), some (.d (pd rows)), v] ∧ Dp O' p cs (rows.map (· ++ [.none]))) (fun R1 hR1 => ?_) ?_
  · walk_at "wd"
    have sq : ∀ O' rs, Dp O' p cs rs → zq O' (.own p) = some (cs.map W.own) := fun O' rs d => by simp only [zq, d.at_]
    refine ⟨_, sq _ _ dp, ?_⟩
    refine yq.by (fun i ρ O' => ∃ v, ρ = [some (.own p), some (.d (pd rows)), v] ∧ Dp O' p cs ((rows.take i).map (· ++ [.none]) ++ rows.drop i)) ⟨_, rfl, by simpa using dp⟩ (fun i ρ O' ⟨v, _, d⟩ => sq _ _ d) ?_ ?_
    · rintro i w _ O' hw ⟨v, rfl, d⟩ R2 hR2
      rw [List.getElem?_map] at hw
      cases hb : cs[i]? with
      | none => rw [hb] at hw; cases hw
      | some b =>
        rw [hb] at hw
        cases hw
        obtain ⟨ds, hd, ho⟩ := Paired.getP d.ds.pr hb
        have hi : i < rows.length := by
          rw [← lc]
          exact (List.getElem?_eq_some_iff.1 hb).1
        have hr : rows[i]? = some ds := by
          rw [List.getElem?_append_right (by simp; omega)] at hd
          simp only [List.length_map, List.length_take, Nat.min_eq_left (Nat.le_of_lt hi), Nat.sub_self, List.getElem?_drop, Nat.add_zero] at hd
          exact hd
        simp only [xy]
        walk_at "wd"
        have hl := l2 ds (List.mem_of_getElem? hr)
        have cel : ∀ x ∈ ds.map W.d, ∃ c : Cel, x = .d (zF c) := fun x hx => by
          obtain ⟨y, hy, rfl⟩ := List.mem_map.1 hx
          obtain ⟨c, e, _⟩ := Yz (List.all_eq_true.1 (ok.row ds (List.mem_of_getElem? hr)).2 y hy)
          exact ⟨c, by rw [e]⟩
        have sqb : zq O' (.own b) = some (ds.map W.d) := by simp only [zq, ho]
        refine ⟨⟨_, ho⟩, _, sqb, by rw [List.length_map]; omega, fun _ => some (.bool true), ?_, _, XR O' ds, (iff_of_eq (if_neg YF)).mpr ⟨_, sqb, by rw [List.length_map]; omega, fun _ => some (.bool true), ?_, _, XR O' ds, (iff_of_eq (if_neg YF)).mpr ⟨.inl ⟨rfl, by simp [zq, ho]⟩, updO O' b (.lst ((ds ++ [PyData.none]).map W.d)), ?_, hR2 _ _ ⟨_, rfl, ?_⟩⟩⟩⟩
        · intro x hx us hu
          obtain ⟨u, rfl⟩ := List.length_eq_one_iff.1 hu
          obtain ⟨c, rfl⟩ := cel x hx
          exact ⟨rfl, rfl, rfl⟩
        · intro x hx us hu
          obtain ⟨u, rfl⟩ := List.length_eq_one_iff.1 hu
          obtain ⟨c, rfl⟩ := cel x hx
          exact ⟨rfl, rfl, _, rfl, _, rfl, _, rfl, _, rfl, c.2, rfl, rfl, rfl⟩
        · simp only [vD, ho]
          rw [if_pos (by rw [List.length_map]; omega), List.map_append]
          rfl
        · have := d.set hb (ds ++ [PyData.none])
          have e : ((rows.take i).map (· ++ [PyData.none]) ++ rows.drop i).set i (ds ++ [PyData.none]) = (rows.take (i + 1)).map (· ++ [PyData.none]) ++ rows.drop (i + 1) := by
            rw [List.set_append_right _ _ (by simp; omega), List.length_map, List.length_take, Nat.min_eq_left (Nat.le_of_lt hi), Nat.sub_self, List.drop_eq_getElem_cons hi, List.set_cons_zero, List.take_add_one, hr]
            simp
          rw [e] at this
          exact this
    · rintro _ O' ⟨v, rfl, d⟩
      rw [List.length_map, lc, List.take_length, List.drop_length, List.append_nil] at d
      exact hR1 _ _ ⟨v, rfl, d⟩
  rintro _ O2 ⟨v, rfl, dp2⟩
  walk_at "wd"
  have e1 : zq O2 (.own p) = some (cs.map W.own) := by simp only [zq, dp2.at_]
  have e2 : zq O2 (.d (pd rows)) = some (rows.map fun r => W.d (.list r)) := by
    show some (List.map W.d _) = _
    rw [List.map_map]
    rfl
  have ln : ∀ b ∈ cs, ∃ n : Nat, y7 O2 (.own b) = some n := fun b hb => by
    obtain ⟨ds, q⟩ := dp2.ds.mem hb
    exact ⟨ds.length, by simp [y7, yp, zq, q]⟩
  refine ⟨_, e1, by rw [List.length_map, lc]; omega, fun w => (y7 O2 w).map fun (n : Nat) => PyData.int (n : Int), ?_, _, e2, by rw [List.length_map]; omega, fun w => (y7 O2 w).map fun (n : Nat) => PyData.int ((n : Int) + 1), ?_, _, rfl, _, rfl, ?_⟩
  · intro w hw us hu
    obtain ⟨u, rfl⟩ := List.length_eq_one_iff.1 hu
    obtain ⟨b, hb, rfl⟩ := List.mem_map.1 hw
    obtain ⟨n, hn⟩ := ln b hb
    exact ⟨rfl, rfl, n, hn, by simp only [hn]; rfl⟩
  · intro w hw us hu
    obtain ⟨u, rfl⟩ := List.length_eq_one_iff.1 hu
    obtain ⟨r, hr, rfl⟩ := List.mem_map.1 hw
    exact ⟨rfl, rfl, _, yE, by simp only [yE]; rfl⟩
  · have f2 : List.filterMap (fun w => (y7 O2 w).map fun (n : Nat) => PyData.int ((n : Int) + 1)) (rows.map fun r => W.d (.list r)) = (rows.map fun r => ((r.length : Int) + 1)).map PyData.int := by
      rw [yU rows (fun r => W.d (.list r)) _ (fun r => .int ((r.length : Int) + 1)) (fun r => by rw [yE]; rfl), List.map_map]
      rfl
    have f1 : List.filterMap (fun w => (y7 O2 w).map fun (n : Nat) => PyData.int (n : Int)) (cs.map W.own) = (rows.map fun r => ((r.length : Int) + 1)).map PyData.int := by
      have pr := dp2.ds.pr
      clear f2 ln e1 e2 dp2 dp lc l1 l2 hsh heq ok
      generalize hrs : rows.map (· ++ [PyData.none]) = rs at pr
      induction pr generalizing rows with
      | nil =>
        cases rows with
        | nil => rfl
        | cons _ _ => cases hrs
      | cons a c ih =>
        cases rows with
        | nil => cases hrs
        | cons r rows =>
          rename_i x y xs ys
          cases hrs
          have e : y7 O2 (.own x) = some (r.length + 1) := by simp [y7, yp, zq, a]
          rw [List.map_cons, List.filterMap_cons, e, ih rows rfl]
          rfl
    rw [f1, f2]
    obtain ⟨s1, s2⟩ := Y5 (rows.map fun r => ((r.length : Int) + 1))
    refine ⟨s1, s1, ?_⟩
    rw [s2]
    exact .inl (h _)
end
noncomputable def xc : List PyData := [.tuple [.str (Str.ofString "ab"), .int 0], .tuple [.str (Str.ofString ""), .int 0], .tuple [.str (Str.ofString "\t"), .int 0], .tuple [.str (Str.ofString "\n"), .int 0], .tuple [.str (Str.ofString "a"), .int 512], .tuple [.str (Str.ofString "a"), .int (-1)], .tuple [.str (Str.ofString "a"), .bool true], .list [.str (Str.ofString "a"), .int 0], .tuple [.str (Str.ofString "a")], .none]
theorem V1 : ∀ d ∈ xc, cellD d = false ∧ smD d = true := by
  intro d hd
  simp only [xc, List.mem_cons, List.not_mem_nil, or_false] at hd
  rcases hd with rfl | rfl | rfl | rfl | rfl | rfl | rfl | rfl | rfl | rfl <;> decide +kernel
noncomputable def V2 : SpW := fun ws O R => ∃ rows, ∃ x : Nat, ∃ c : Int, ws = [.d (pd rows), .d (.int c)] ∧ PicOk rows x ∧ 0 ≤ c ∧ ∀ d, smD d = true → picB d = false → R (.d d) O
local macro_rules | `(tactic| walk_at "postc") => `(tactic| simp only [yE, Qs, Yp, ut, XN, XO, zY, Option.some.injEq, exists_eq_left', List.length_map, yp])
section
variable {P : Program} {w : World} {K : PySem.W.Frag} {mg : Str → Option Value} {base : Heap} {f : Addr} {fd : FuncData} {bw sw hf : Addr} {se bp bs bi ba un : Addr}
seal L2.PE L2.PS L2.PSs L2.PT L2.PA in
theorem Zi (F : Fun K "_law_spoilt" "_law_spoilt" vk f fd) (T : Txt P w K mg bw sw hf) : FnOk P w K mg base CX0 1 f fd ["_law_picture_here", "_law_cell"] (zb K V2) := by
  have nd := ur.nd
  apply F.okV ur (by rintro _ _ _ ⟨a, b, c, rfl, _⟩; rfl) (fun cdv A outer sh H E hr => (zc (zp (i := 2) nd rfl (Or.inl rfl) (ze zz (ze zO (pv 1) za) (zh (z9 (K := K) rfl) (by rfl) T.n_len (by rfl) (QA.pa (qc (pv 0) qn)))))
      (zc (zp (i := 3) nd rfl (Or.inl rfl) (ze zz (ze zO (pv 1) za) (zh (z9 (K := K) rfl) (by rfl) T.n_len (by rfl) (QA.pa (qc (zB (z7 (K := K) rfl) (pv 0) za (fun _ _ => rfl)) qn)))))
      (zc (zp (i := 4) nd rfl (Or.inl rfl) (zB (z7 (K := K) rfl) (pv 0) (pv 2) (fun _ _ => rfl)))
      (zc (zp (i := 5) nd rfl (Or.inl rfl) (zL (qc (zM (qc zm (qc za qn))) (qc (zM (qc zm (qc za qn))) (qc (zM (qc zm (qc za qn))) (qc (zM (qc zm (qc za qn))) (qc (zM (qc zm (qc za qn))) (qc (zM (qc zm (qc (JW Uc za) qn))) (qc (zM (qc zm (qc yR qn))) (qc (zL (qc zm (qc za qn))) (qc (zM (qc zm qn)) (qc jp qn))))))))))))
      (zc (zI (zx xq (ze zz (pv 1) za) za (zD _)) (zf (zk (zB (z7 (K := K) rfl) (zL (qc (zL qn) (qc (yN (u6 (K := K) rfl) (by rfl) T.n_tuple rfl (QA.pa (qc (pv 0) qn))) (qc jp (qc (yw (yS (K := K) rfl) (ze (ke (K := K) rfl) (pv 0) za) yH (yI za)) (qc zm (qc QZ (qc za (qc (zL (qc (zL qn) qn)) qn))))))))) (ze zz (ze zO (pv 1) za) za) (fun _ _ => rfl)))) zw)
      (zc (zI (zx xq (ze zz (pv 1) za) za (zD _)) (zc (zp (i := 6) nd rfl (Or.inl rfl) (zB (z7 (K := K) rfl) (zL (qc (yN (u6 (K := K) rfl) (by rfl) T.n_tuple rfl (QA.pa (qc (pv 4) qn))) (qc (zL qn) (qc jp (qc (ze (ke (K := K) rfl) (pv 4) za) (qc zm qn)))))) (ze zz (ze zO (pv 1) za) za) (fun _ _ => rfl)))
      (zf (zk (ze (xa (K := K) rfl) (ze (xa (K := K) rfl) (yw (yS (K := K) rfl) (pv 0) yH (yI (pv 2))) (zL (qc (pv 6) qn))) (yw (yS (K := K) rfl) (pv 0) (yI (ze zE (pv 2) za)) yH))))) zw)
      (zc (zI (PW.pt (V5 (zx xq (ze zz (pv 1) za) za (zD _)) (Xd (zx Zj (zh (z9 (K := K) rfl) (by rfl) T.n_len (by rfl) (QA.pa (qc (pv 0) qn))) za (zD _))))) (zf (zk (ze (xa (K := K) rfl) (ze (xa (K := K) rfl) (yw (yS (K := K) rfl) (pv 0) yH (yI (pv 2))) (zL (qc (yw (yS (K := K) rfl) (pv 4) (yI za) yH) qn))) (yw (yS (K := K) rfl) (pv 0) (yI (ze zE (pv 2) za)) yH)))) zw)
      (zc (zp (i := 6) nd rfl (Or.inl rfl) (ze (xa (K := K) rfl) (ze (xa (K := K) rfl) (yw (yS (K := K) rfl) (pv 4) yH (yI (pv 3))) (zL (qc (zB (z7 (K := K) rfl) (pv 5) (ze zz (ze zO (pv 1) za) za) (fun _ _ => rfl)) qn))) (yw (yS (K := K) rfl) (pv 4) (yI (ze zE (pv 3) za)) yH)))
      (zf (zk (ze (xa (K := K) rfl) (ze (xa (K := K) rfl) (yw (yS (K := K) rfl) (pv 0) yH (yI (pv 2))) (zL (qc (pv 6) qn))) (yw (yS (K := K) rfl) (pv 0) (yI (ze zE (pv 2) za)) yH)))))))))))))
  · walk_at "ref"
  rintro _ O R ⟨rows, x, c, rfl, ok, c0, h⟩
  refine x3 (fun ρ' O' => ∃ n q : Nat, n < rows.length ∧ q < x ∧ ρ' = [some (.d (pd rows)), some (.d (.int c)), some (.d (.int n)), some (.d (.int q)), none, none, none] ∧ O = O') (fun R1 hR1 => ?_) ?_
  · walk_at "wd"
    walk_at "postc"
    obtain ⟨r, rs, e⟩ : ∃ r rs, rows = r :: rs := by
      cases rows with
      | nil => exact absurd ok.h1 (by simp)
      | cons r rs => exact ⟨r, rs, rfl⟩
    have hw := (ok.row r (by rw [e]; exact List.mem_cons_self)).1
    have hh := ok.h1
    have w1 := ok.w1
    refine ⟨⟨by omega, by omega⟩, by omega, ⟨by omega, by omega⟩, .d (.list r), by rw [e]; exact Zt, ?_⟩
    walk_at "postc"
    refine ⟨by omega, ?_⟩
    obtain ⟨n, hn⟩ := Int.eq_ofNat_of_zero_le (Int.emod_nonneg (c / 8) (show (rows.length : Int) ≠ 0 by omega))
    obtain ⟨q, hq⟩ := Int.eq_ofNat_of_zero_le (Int.emod_nonneg (c / 96) (show (r.length : Int) ≠ 0 by omega))
    have b1 := Int.emod_lt_of_pos (c / 8) (show (0 : Int) < rows.length by omega)
    have b2 := Int.emod_lt_of_pos (c / 96) (show (0 : Int) < r.length by omega)
    rw [hn, hq]
    exact hR1 _ _ ⟨n, q, by omega, by omega, rfl, rfl⟩
  rintro _ _ ⟨n, q, hn, hq, rfl, rfl⟩
  refine x3 (fun ρ' O' => ∃ r ∈ rows, ρ' = [some (.d (pd rows)), some (.d (.int c)), some (.d (.int n)), some (.d (.int q)), some (.d (.list r)), some (.d (.list xc)), none] ∧ O = O') (fun R1 hR1 => ?_) ?_
  · walk_at "wd"
    walk_at "postc"
    exact ⟨.d (.list rows[n]), yu (by rw [List.getElem?_map, List.getElem?_map, List.getElem?_eq_getElem hn]; rfl), hR1 _ _ ⟨_, List.getElem_mem hn, rfl, rfl⟩⟩
  rintro _ _ ⟨r, hr, rfl, rfl⟩
  obtain ⟨rl, rc⟩ := ok.row r hr
  have w1 := ok.w1
  have w2 := ok.w2
  have h1 := ok.h1
  have h2 := ok.h2
  have rs := ok.rowSm hr
  have c1 : yd (rows.map PyData.list) (some ((n : Int) + 1)) none = (rows.map PyData.list).drop (n + 1) := jk (n := n + 1)
  have fin : ∀ d, VS rows.length x d → smD d = true → (yd (rows.map PyData.list) none (some (n : Int))).length + 1 ≤ 1000 ∧ (yd (rows.map PyData.list) none (some (n : Int)) ++ [d]).length + (yd (rows.map PyData.list) (some ((n : Int) + 1)) none).length ≤ 1000 ∧ R (.d (.list (yd (rows.map PyData.list) none (some (n : Int)) ++ [d] ++ yd (rows.map PyData.list) (some ((n : Int) + 1)) none))) O := fun d bad sm => by
    rw [uu, c1]
    refine ⟨by simp; omega, by simp; omega, h _ ?_ ?_⟩
    · rw [List.append_assoc]
      refine Qv (by rw [List.length_map]; omega) (fun e he => ?_) sm
      obtain ⟨r', hr', rfl⟩ := List.mem_map.1 he
      exact ok.rowSm' hr'
    · rw [List.append_assoc]
      exact za2 ok hn bad
  refine zZ (fun ρ' O' => ρ' = [some (.d (pd rows)), some (.d (.int c)), some (.d (.int n)), some (.d (.int q)), some (.d (.list r)), some (.d (.list xc)), none] ∧ O = O') (fun R1 hR1 => ?_) ?_
  · walk_at "wd"
    walk_at "postc"
    split
    · refine ⟨rfl, by omega, ⟨by decide, by decide⟩, ?_⟩
      have e : c / 2304 % 8 = 0 ∨ c / 2304 % 8 = 1 ∨ c / 2304 % 8 = 2 ∨ c / 2304 % 8 = 3 ∨ c / 2304 % 8 = 4 ∨ c / 2304 % 8 = 5 ∨ c / 2304 % 8 = 6 ∨ c / 2304 % 8 = 7 := by omega
      have rp : ∀ d ∈ yP 13 (rows.map PyData.list), smD d = true := fun d hd => by
        unfold yP at hd
        obtain ⟨l, hl, m⟩ := List.mem_flatten.1 hd
        rw [(List.mem_replicate.1 hl).2] at m
        obtain ⟨r', hr', rfl⟩ := List.mem_map.1 m
        exact ok.rowSm' hr'
      have rn : (yP 13 (rows.map PyData.list)).length = 13 * rows.length := by
        unfold yP
        rw [List.length_flatten, List.map_replicate, List.sum_replicate_nat, List.length_map]
        rfl
      have ct : yd (yP 13 (rows.map PyData.list)) none (some 13) = (yP 13 (rows.map PyData.list)).take 13 := uu (n := 13)
      rcases e with e | e | e | e | e | e | e | e <;> rw [e]
      · exact ⟨_, rfl, .inl (h _ rfl rfl)⟩
      · exact ⟨_, rfl, .inl (h (.tuple (rows.map PyData.list)) (Qu (by rw [List.length_map]; omega) fun d hd => by
          obtain ⟨r', hr', rfl⟩ := List.mem_map.1 hd
          exact ok.rowSm' hr') rfl)⟩
      · exact ⟨_, rfl, .inl (h _ rfl rfl)⟩
      · refine ⟨_, rfl, .inl (h (.list (yd (yP 13 (rows.map PyData.list)) none (some 13))) ?_ ?_)⟩
        · rw [ct]
          exact vx (by rw [List.length_take]; omega) fun d hd => rp d (List.mem_of_mem_take hd)
        · rw [ct]
          have hl : ((yP 13 (rows.map PyData.list)).take 13).length = 13 := by rw [List.length_take]; omega
          exact JM hl
      · exact ⟨_, rfl, .inl (h _ (by decide +kernel) rfl)⟩
      · exact ⟨_, rfl, .inl (h _ rfl rfl)⟩
      · exact ⟨_, rfl, .inl (h _ rfl rfl)⟩
      · exact ⟨_, rfl, .inl (h _ rfl (by decide +kernel))⟩
    · exact hR1 _ _ ⟨rfl, rfl⟩
  rintro _ _ ⟨rfl, rfl⟩
  refine zZ (fun ρ' O' => ρ' = [some (.d (pd rows)), some (.d (.int c)), some (.d (.int n)), some (.d (.int q)), some (.d (.list r)), some (.d (.list xc)), none] ∧ O = O') (fun R1 hR1 => ?_) ?_
  · walk_at "wd"
    walk_at "postc"
    split
    · refine ⟨by omega, ⟨by decide, by decide⟩, ?_⟩
      have e : c / 2304 % 5 = 0 ∨ c / 2304 % 5 = 1 ∨ c / 2304 % 5 = 2 ∨ c / 2304 % 5 = 3 ∨ c / 2304 % 5 = 4 := by omega
      have rp : ∀ d ∈ yP 25 r, smD d = true := fun d hd => by
        unfold yP at hd
        obtain ⟨l, hl, m⟩ := List.mem_flatten.1 hd
        rw [(List.mem_replicate.1 hl).2] at m
        exact rs d m
      have rn : (yP 25 r).length = 25 * x := by
        unfold yP
        rw [List.length_flatten, List.map_replicate, List.sum_replicate_nat, rl]
        rfl
      have go : ∀ d, VS rows.length x d → smD d = true → ∃ ds, zX [W.d d] = some ds ∧ ds.length ≤ 1000 ∧ (yd (rows.map PyData.list) none (some (n : Int))).length + ds.length ≤ 1000 ∧ (yd (rows.map PyData.list) none (some (n : Int)) ++ ds).length + (yd (rows.map PyData.list) (some ((n : Int) + 1)) none).length ≤ 1000 ∧ Clo R (.d (.list (yd (rows.map PyData.list) none (some (n : Int)) ++ ds ++ yd (rows.map PyData.list) (some ((n : Int) + 1)) none))) O := fun d b sm => by
        obtain ⟨f1, f2, f3⟩ := fin d b sm
        exact ⟨[d], rfl, by simp, f1, f2, .inl f3⟩
      rcases e with e | e | e | e | e <;> rw [e]
      · exact ⟨_, rfl, go (.tuple r) trivial (Qu (by omega) rs)⟩
      · exact ⟨_, rfl, go (.list []) (.inl rfl) rfl⟩
      · exact ⟨_, rfl, go .none trivial rfl⟩
      · exact ⟨_, rfl, go (.list (yP 25 r)) (.inr (.inl (by omega))) (vx (by omega) rp)⟩
      · exact ⟨_, rfl, go (.str (Str.ofString "a")) trivial (by decide +kernel)⟩
    · exact hR1 _ _ ⟨rfl, rfl⟩
  rintro _ _ ⟨rfl, rfl⟩
  refine zZ (fun ρ' O' => ρ' = [some (.d (pd rows)), some (.d (.int c)), some (.d (.int n)), some (.d (.int q)), some (.d (.list r)), some (.d (.list xc)), none] ∧ O = O') (fun R1 hR1 => ?_) ?_
  · walk_at "wd"
    walk_at "postc"
    split
    · split
      · rename_i z
        have ct : yd r (some 1) none = r.drop 1 := jk (n := 1)
        obtain ⟨f1, f2, f3⟩ := fin (.list (yd r (some 1) none)) (.inr (.inr (.inr ⟨by omega, by rw [ct, List.length_drop]; omega⟩))) (by rw [ct]; exact vx (by rw [List.length_drop]; omega) fun d hd => rs d (List.mem_of_mem_drop hd))
        exact ⟨f1, f2, .inl f3⟩
      · exact hR1 _ _ ⟨rfl, rfl⟩
    · exact hR1 _ _ ⟨rfl, rfl⟩
  rintro _ _ ⟨rfl, rfl⟩
  walk_at "wd"
  walk_at "postc"
  have c2 : yd r (some ((q : Int) + 1)) none = r.drop (q + 1) := jk (n := q + 1)
  obtain ⟨m, hm⟩ := Int.eq_ofNat_of_zero_le (Int.emod_nonneg (c / 2304) (show (10 : Int) ≠ 0 by omega))
  have b3 := Int.emod_lt_of_pos (c / 2304) (show (0 : Int) < 10 by omega)
  have ml : m < xc.length := by show m < 10; omega
  have bad := V1 _ (List.getElem_mem ml)
  obtain ⟨f1, f2, f3⟩ := fin (.list (yd r none (some (q : Int)) ++ [xc[m]] ++ yd r (some ((q : Int) + 1)) none)) (by
    rw [uu, c2, List.append_assoc]
    exact .inr (.inr (.inl (za3 bad.1)))) (by
    rw [uu, c2, List.append_assoc]
    exact Qv (by omega) rs bad.2)
  refine ⟨⟨by decide, by decide⟩, .d xc[m], by rw [hm]; exact yu (by rw [List.getElem?_map, List.getElem?_eq_getElem ml]; rfl), [xc[m]], rfl, by simp, ?_, ?_, f1, f2, .inl f3⟩
  · rw [uu]
    simp
    omega
  · rw [uu, c2]
    simp
    omega
end
noncomputable def Mx (f : Nat → Int) (n : Nat) (l : List T3) : Prop := ∀ t ∈ l, t.2.1 < n → f t.2.1 ≠ t.2.2
theorem YI {f : Nat → Int} {n : Nat} : ∀ {l m : List T3} {a : Nat}, Cov f a l n → Cov f a m n → Mx f n l → Mx f n m → l = m
  | [], [], _, _, _, _, _ => rfl
  | [], t :: m, a, h, h', _, _ => by
    cases h
    have := h'.2.2.2.le
    have := h'.1
    have := h'.2.1
    omega
  | t :: l, [], a, h, h', _, _ => by
    cases h'
    have := h.2.2.2.le
    have := h.1
    have := h.2.1
    omega
  | (t1, t2, t3) :: l, (u1, u2, u3) :: m, a, h, h', x, y => by
    have l1 := h.2.2.2.le
    have l2 := h'.2.2.2.le
    obtain ⟨a1, a2, a3, a4⟩ := h
    obtain ⟨b1, b2, b3, b4⟩ := h'
    simp only at a1 a2 a3 a4 b1 b2 b3 b4 l1 l2
    have e3 : t3 = u3 := by rw [← a3 a (by omega) (by omega), b3 a (by omega) (by omega)]
    have e2 : t2 = u2 := by
      rcases Nat.lt_trichotomy t2 u2 with q | q | q
      · exact absurd (by show f t2 = t3; rw [b3 t2 (by omega) q, e3]) (x (t1, t2, t3) List.mem_cons_self (by show t2 < n; omega))
      · exact q
      · exact absurd (by show f u2 = u3; rw [a3 u2 (by omega) q, e3]) (y (u1, u2, u3) List.mem_cons_self (by show u2 < n; omega))
    subst e2
    rw [a1, b1, e3, YI a4 b4 (fun t ht => x t (List.mem_cons_of_mem _ ht)) (fun t ht => y t (List.mem_cons_of_mem _ ht))]
theorem YJ (f : Nat → Int) : ∀ i, ∀ t ∈ (gSt f i).1, f t.2.1 ≠ t.2.2
  | 0, t, h => by simp [gSt] at h
  | i + 1, t, h => by
    unfold gSt at h
    split at h
    · exact YJ f i t h
    · rename_i e
      rcases List.mem_append.1 h with h | h
      · exact YJ f i t h
      · cases List.mem_singleton.1 h
        exact e
theorem zcQ (f : Nat → Int) : ∀ n, Mx f n (stN f n)
  | 0, t, h, _ => by simp [stN] at h
  | n + 1, t, h, hl => by
    unfold stN at h
    rcases List.mem_append.1 h with h | h
    · exact YJ f n t h
    · cases List.mem_singleton.1 h
      exact absurd hl (Nat.lt_irrefl _)
theorem jm (ds : List PyData) : ((List.range ds.length).zipWith (fun (i : Nat) d => W.d (.tuple [.int i, d])) ds) = (List.range ds.length).map fun (i : Nat) => W.d (.tuple [.int i, ds.getD i .none]) := by
  apply List.ext_getElem?
  intro i
  rw [List.getElem?_zipWith, List.getElem?_map]
  rcases Nat.lt_or_ge i ds.length with q | q
  · rw [List.getElem?_range q, List.getElem?_eq_getElem q]
    simp only [Option.map_some]
    rw [List.getD_eq_getElem?_getD, List.getElem?_eq_getElem q]
    rfl
  · rw [List.getElem?_eq_none (by simpa using q)]
    rfl
noncomputable def YL : SpW := fun ws O R => ∃ rows, ∃ x : Nat, ∃ ns : List Int, ∃ k : Int, ws = [.d (pd rows), .d (.list (ns.map .int)), .d (.int k)] ∧ PicOk rows x ∧ 0 ≤ k ∧ k ≤ 1000 ∧ ∀ rows' O', PicOk rows' x → R (.d (pd rows')) O'
noncomputable def zba : SpW := fun ws O R => ∃ r : Rw6, ws = [.d (yn r)] ∧ okW r ∧ ∀ O', Old O O' → R (.d (.str (yg r))) O'
noncomputable def sLaw24 : SpW := fun ws O R => ∃ ns : List Int, ws = [.d (.list (ns.map .int))] ∧ ns.length ≤ 63 ∧ ∀ O', R (.d (.bool true)) O'
noncomputable def kC : SpW := fun ws O R => ∃ p : Pc, ws = [.d (pd (zy p))] ∧ x0 p ∧ R (.d (.str (yy p))) O
section
variable {P : Program} {w : World} {K : PySem.W.Frag} {mg : Str → Option Value} {base : Heap} {f : Addr} {fd : FuncData} {bw sw hf : Addr} {se bp bs bi ba un : Addr}
theorem jn (F : Fun K "_law_stretched" "_law_stretched" xi f fd) (T : Txt P w K mg bw sw hf) (zed : Cal P w K mg base 1 "_law_at" [] (zb K Ym)) : FnOk P w K mg base CX0 2 f fd ["_law_picture_here", "_law_script", "_law_at_here"] (zb K YL) := by
  have nd := vn.nd
  apply F.okV vn (by rintro _ _ _ ⟨a, b, c, d, rfl, _⟩; rfl) (fun cdv A outer sh H E hr => (zc (zI (zx xq (ze zz (zr zed (hr.mono (by decide)) rfl (QA.pa (qc (pv 1) (qc (pv 2) qn)))) za) za (zD _)) (zf (zk (pv 0))) zw)
      (zc (zp (i := 3) nd rfl (Or.inl rfl) (xL qn))
      (zc (yG PassesOwn.never rfl (ZY (K := K) rfl rfl T.n_enumerate (QA.pa (qc (pv 0) qn))) (xM (K := K) (n := 2) rfl rfl (zT (zo (i := 4) nd rfl (Or.inl rfl)) (zT (zo (i := 5) nd rfl (Or.inr rfl)) xF)))
      (zc (zp (i := 6) nd rfl (Or.inr rfl) (ze zE za (ze zz (zr zed (hr.mono (by decide)) rfl (QA.pa (qc (pv 1) (qc (ze zE (ze zE (pv 2) za) (pv 4)) qn)))) za)))
      (zf (ym (zP (K := K) rfl PySem.F.plainAttrs_list PySem.F.slot_list_append PySem.F.type_list_append yk (pv 3) (QA.pa (qc (yD (yO (N := ["_law_column", "_law_cell", "_law_line", "_law_size_here"]) (n := 2) (js := [5, 6])) rfl (ZY (K := K) rfl rfl T.n_enumerate (QA.pa (qc (pv 5) qn))) (fun _ _ _ _ => (xM (K := K) (n := 2) rfl rfl (zT (zo (i := 0) (show List.Nodup (["_law_column", "_law_cell", "_law_line", "_law_size_here"] : List Str) by decide +kernel) rfl (Or.inl rfl)) (zT (zo (i := 1) (show List.Nodup (["_law_column", "_law_cell", "_law_line", "_law_size_here"] : List Str) by decide +kernel) rfl (Or.inl rfl)) xF)))) (fun _ _ _ _ => zV) (fun _ _ _ _ => (zM (qc (zB (yz (K := K) rfl) (pv 1) za (fun _ _ => rfl)) (qc (zB (yz (K := K) rfl) (zB (z7 (K := K) rfl) (pv 2) (ze yM (ze zO (pv 0) (pv 3)) (pv 3)) (fun _ _ => rfl)) za (fun _ _ => rfl)) qn))))) qn)))))))
      (zf (zk (pv 3)))))))
  · walk_at "ref"
  rintro _ O R ⟨rows, x, ns, k, rfl, ok, k0, k1, h⟩
  refine x3 (fun ρ' O' => ∃ a, ρ' = [some (.d (pd rows)), some (.d (.list (ns.map .int))), some (.d (.int k)), some (.own a), none, none, none] ∧ O' a = some (.lst [])) (fun R1 hR1 => ?_) ?_
  · walk_at "wd"
    refine ⟨ns, k, rfl, k0, by omega, fun n n0 n1 => ?_⟩
    show 0 < (2 : Int) ∧ _
    refine ⟨by decide, ?_⟩
    split
    · exact .inl (h rows O ok)
    · exact fun p hp => hR1 _ _ ⟨p, rfl, zj⟩
  rintro _ O1 ⟨a, rfl, ha⟩
  have h2 := ok.h2
  refine zZ (fun ρ' O' => ∃ rows' v4 v5 v6, PicOk rows' x ∧ ρ' = [some (.d (pd rows)), some (.d (.list (ns.map .int))), some (.d (.int k)), some (.own a), v4, v5, v6] ∧ O' a = some (.lst ((rows'.map PyData.list).map W.d))) (fun R1 hR1 => ?_) ?_
  · walk_at "wd"
    refine ⟨_, rfl, _, zY _, ?_⟩
    rw [jm]
    refine yq.by (fun i ρ O' => ∃ rows' v4 v5 v6, rows'.length = i ∧ (∀ r ∈ rows', r.length = x ∧ r.all cellD = true) ∧ ρ = [some (.d (pd rows)), some (.d (.list (ns.map .int))), some (.d (.int k)), some (.own a), v4, v5, v6] ∧ O' a = some (.lst ((rows'.map PyData.list).map W.d))) ⟨[], _, _, _, rfl, by simp, rfl, ha⟩ (fun _ _ _ _ => rfl) ?_ ?_
    · rintro i w _ O' hw ⟨rows', v4, v5, v6, rl, hrow, rfl, hO'⟩ R2 hR2
      rw [List.getElem?_map, List.length_map] at hw
      obtain ⟨j, hj, rfl⟩ := Option.map_eq_some_iff.1 hw
      obtain ⟨hi, e⟩ := List.getElem?_eq_some_iff.1 hj
      rw [List.length_range] at hi
      rw [List.getElem_range] at e
      subst e
      have hr : rows[i]? = some rows[i] := List.getElem?_eq_getElem hi
      generalize rows[i] = r at hr
      have rk := ok.row r (List.mem_of_getElem? hr)
      have eg : (rows.map PyData.list).getD i .none = .list r := by rw [List.getD_eq_getElem?_getD, List.getElem?_map, hr]; rfl
      rw [eg]
      refine ⟨_, rfl, rfl, _, _, rfl, _, _, rfl, rfl, ?_⟩
      refine zZ (fun ρ' O2 => ∃ s : Nat, 1 ≤ s ∧ s ≤ 9 ∧ ρ' = [some (.d (pd rows)), some (.d (.list (ns.map .int))), some (.d (.int k)), some (.own a), some (.d (.int i)), some (.d (.list r)), some (.d (.int s))] ∧ O' = O2) (fun R3 hR3 => ?_) ?_
      · walk_at "wd"
        refine ⟨ns, k + 1 + i, rfl, by omega, by omega, fun n n0 n1 => ?_⟩
        show 0 < (9 : Int) ∧ _
        have e9 : ((1 + n % 9).toNat : Int) = 1 + n % 9 := Int.toNat_of_nonneg (by omega)
        exact ⟨by decide, hR3 _ _ ⟨(1 + n % 9).toNat, by omega, by omega, by rw [e9], rfl⟩⟩
      rintro _ _ ⟨s, s1, s2, rfl, rfl⟩
      obtain ⟨sr, es, _⟩ := kz rk.2
      subst es
      have hc : ∀ c ∈ sr, cellD (zF c) = true := fun c m => List.all_eq_true.1 rk.2 _ (List.mem_map.2 ⟨c, m, rfl⟩)
      have sl : sr.length = x := by rw [← rk.1, List.length_map]
      have x2 := ok.w2
      have gA : ∀ j, j < sr.length → (sr.map zF).getD j .none = zF (cA sr j) ∧ cA sr j ∈ sr := fun j hj => by
        unfold cA
        rw [List.getD_eq_getElem?_getD, List.getD_eq_getElem?_getD, List.getElem?_map, List.getElem?_eq_getElem hj]
        exact ⟨rfl, List.getElem_mem hj⟩
      walk_at "wd"
      refine ⟨.inl ⟨rfl, by simp [zq, hO']⟩, _, rfl, _, zY _, rfl, by rw [List.length_map]; omega, fun w => match w with | .d (.tuple [.int j, _]) => some (zF ((cA sr j.toNat).1, (cA sr (j.toNat / s * s)).2)) | _ => none, ?_, ?_⟩
      · intro w hw us hu
        rw [jm] at hw
        obtain ⟨j, hj, rfl⟩ := List.mem_map.1 hw
        rw [List.mem_range, List.length_map] at hj
        obtain ⟨u1, u2, rfl⟩ : ∃ a b, us = [a, b] := by
          match us, hu with
          | [a, b], _ => exact ⟨a, b, rfl⟩
        have js : j / s * s ≤ j := Nat.div_mul_le_self j s
        rw [(gA j hj).1]
        refine ⟨_, rfl, rfl, _, _, rfl, _, _, rfl, rfl, rfl, rfl, _, rfl, _, rfl, ?_⟩
        show zbl (j : Int) (s : Int) ∧ IntMulOk ((j : Int) / (s : Int)) (s : Int) ∧ _
        have dj : (j : Int) / (s : Int) = ((j / s : Nat) : Int) := by simp
        have dm : ((j : Int) / (s : Int)) * (s : Int) = ((j / s * s : Nat) : Int) := by rw [dj]; simp
        have dl := Nat.div_le_self j s
        refine ⟨⟨by omega, by omega⟩, mulR (by omega) (by omega), _, rfl, .d (zF (cA sr (j / s * s))), ?_, ?_⟩
        · rw [dm]
          refine yu ?_
          rw [List.getElem?_map, List.getElem?_map, List.getElem?_eq_getElem (by omega)]
          unfold cA
          rw [List.getD_eq_getElem?_getD, List.getElem?_eq_getElem (by omega)]
          rfl
        · exact ⟨_, rfl, _, rfl, rfl⟩
      · rw [jm, yU (List.range (sr.map zF).length) _ _ (fun j => zF ((cA sr j).1, (cA sr (j / s * s)).2)) (fun j => rfl)]
        refine ⟨updO O' a (.lst (((rows' ++ [(List.range (sr.map zF).length).map fun j => zF ((cA sr j).1, (cA sr (j / s * s)).2)]).map PyData.list).map W.d)), ?_, hR2 _ _ ⟨rows' ++ [(List.range (sr.map zF).length).map fun j => zF ((cA sr j).1, (cA sr (j / s * s)).2)], _, _, _, by rw [List.length_append, rl]; rfl, fun r hr => ?_, rfl, zj⟩⟩
        · simp only [vD, hO']
          rw [if_pos (by rw [List.length_map, List.length_map, rl]; omega), List.map_append, List.map_append]
          rfl
        · rcases List.mem_append.1 hr with hr | hr
          · exact hrow r hr
          · cases List.mem_singleton.1 hr
            refine ⟨by rw [List.length_map, List.length_range, List.length_map, sl], List.all_eq_true.2 fun d hd => ?_⟩
            obtain ⟨j, hj, rfl⟩ := List.mem_map.1 hd
            rw [List.mem_range, List.length_map] at hj
            have js : j / s * s ≤ j := Nat.div_mul_le_self j s
            have q1 := hc _ (gA j hj).2
            have q2 := hc _ (gA (j / s * s) (by omega)).2
            have q1 : (signD (.str (cA sr j).1) && inkD (.int (cA sr j).2)) = true := q1
            have q2 : (signD (.str (cA sr (j / s * s)).1) && inkD (.int (cA sr (j / s * s)).2)) = true := q2
            rw [Bool.and_eq_true] at q1 q2
            show (signD (.str (cA sr j).1) && inkD (.int (cA sr (j / s * s)).2)) = true
            rw [q1.1, q2.2]
            rfl
    · rintro _ O' ⟨rows', v4, v5, v6, rl, hrow, rfl, hO'⟩
      rw [List.length_map, List.length_range, List.length_map] at rl
      exact hR1 _ _ ⟨rows', _, _, _, ⟨ok.w1, ok.w2, by rw [rl]; exact ok.h1, by rw [rl]; exact ok.h2, hrow⟩, rfl, hO'⟩
  rintro _ O2 ⟨rows', v4, v5, v6, ok', rfl, hO2⟩
  walk_at "wd"
  exact .inr ⟨a, _, rfl, hO2, h _ _ ok'⟩
theorem YM (F : Fun K "_law_inks" "_law_inks" x6 f fd) (T : Txt P w K mg bw sw hf) (zen : Cal P w K mg base 1 "_law_text" [] (zb K jR)) : FnOk P w K mg base CX0 2 f fd ["_law_line"] (zb K zba) := by
  have nd := qq.nd
  apply F.okV qq (by rintro _ _ _ ⟨r, rfl, _⟩; rfl) (fun cdv A outer sh H E hr => (zc (zp (i := 1) nd rfl (Or.inl rfl) (xL qn))
      (zc (zp (i := 2) nd rfl (Or.inl rfl) za)
      (zc (ZA PassesOwn.never (zx JY (pv 2) (zh (z9 (K := K) rfl) (by rfl) T.n_len (by rfl) (QA.pa (qc (pv 0) qn))) (zD _)) (zc (zp (i := 3) nd rfl (Or.inl rfl) (pv 2))
      (zc (ZA PassesOwn.never (PW.pt (V5 (zx JY (pv 3) (zh (z9 (K := K) rfl) (by rfl) T.n_len (by rfl) (QA.pa (qc (pv 0) qn))) (zD _)) (Xd (zx xq (zB (yz (K := K) rfl) (zB (z7 (K := K) rfl) (pv 0) (pv 3) (fun _ _ => rfl)) za (fun _ _ => rfl)) (zB (yz (K := K) rfl) (zB (z7 (K := K) rfl) (pv 0) (pv 2) (fun _ _ => rfl)) za (fun _ _ => rfl)) (zD _))))) (zf (zp (i := 3) nd rfl (Or.inl rfl) (ze zE (pv 3) za))))
      (zc (ym (zP (K := K) rfl PySem.F.plainAttrs_list PySem.F.slot_list_append PySem.F.type_list_append yk (pv 1) (QA.pa (qc (ze yo (ze yo (yN vS (by rfl) T.n_str rfl (QA.pa (qc (ze Ub (pv 3) (pv 2)) qn))) zm) (zr zen (hr.mono (by decide)) rfl (QA.pa (qc (zB (yz (K := K) rfl) (zB (z7 (K := K) rfl) (pv 0) (pv 2) (fun _ _ => rfl)) za (fun _ _ => rfl)) qn)))) qn))))
      (zf (zp (i := 2) nd rfl (Or.inl rfl) (pv 3)))))))
      (zf (zk (zP (K := K) rfl PySem.F.plainAttrs_str PySem.F.slot_str_join PySem.F.type_str_join (xN (K := K) rfl) zm (QA.pa (qc (pv 1) qn)))))))))
  · walk_at "ref"
  rintro _ O R ⟨r, rfl, hr, h⟩
  refine x3 (fun ρ' O' => ∃ q, O q = none ∧ ρ' = [some (.d (yn r)), some (.own q), some (.d (.int 0)), none] ∧ Old O O' ∧ O' q = some (.lst [])) (fun R1 hR1 => ?_) ?_
  · walk_at "wd"
    exact fun q hq => hR1 _ _ ⟨q, hq, rfl, Old.refl.upd hq, zj⟩
  rintro _ O1 ⟨q, hq, rfl, o1, hO1⟩
  have r1 := hr.2.1
  have ln : ∀ O, y7 O (.d (yn r)) = some r.length := fun O => by unfold yn; rw [yE, List.length_map]
  have at_ : ∀ (O : OM) (j : Nat), j < r.length → ∃ ws, zq O (.d (yn r)) = some ws ∧ atI ws (j : Int) = some (.d (zF (cA r j))) := fun O j hj => ⟨_, rfl, yu (by
    rw [List.getElem?_map, List.getElem?_map, List.getElem?_eq_getElem hj]
    unfold cA
    rw [List.getD_eq_getElem?_getD, List.getElem?_eq_getElem hj]
    rfl)⟩
  refine zZ (fun ρ' O' => ∃ v2 v3, ρ' = [some (.d (yn r)), some (.own q), v2, v3] ∧ Old O O' ∧ O' q = some (.lst (((stN (zv r) r.length).map stT).map yr))) (fun R1 hR1 => ?_) ?_
  · refine Xz (fun m ρ O' => ∃ (done : List T3) (a : Nat) (v3 : Option W), m = r.length - a ∧ a ≤ r.length ∧ Cov (zv r) 0 done a ∧ Mx (zv r) r.length done ∧ ρ = [some (.d (yn r)), some (.own q), some (.d (.int a)), v3] ∧ Old O O' ∧ O' q = some (.lst ((done.map stT).map yr))) r.length ⟨[], 0, _, rfl, Nat.zero_le _, rfl, fun t ht => by simp at ht, rfl, o1, hO1⟩ ?_
    rintro m _ O2 ⟨done, a, v3, rfl, ha, cov, mx, rfl, o2, hO2⟩ R2 hR2
    walk_at "wd"
    refine ⟨_, ln _, ?_⟩
    split
    · rename_i hlt
      have hlt : a < r.length := by omega
      refine US (fun m ρ O' => ∃ b : Nat, m = r.length - b ∧ a ≤ b ∧ b ≤ r.length ∧ (∀ j, a ≤ j → j < b → zv r j = zv r a) ∧ ρ = [some (.d (yn r)), some (.own q), some (.d (.int a)), some (.d (.int b))] ∧ O2 = O')
        (fun ρ O' => ∃ b : Nat, a < b ∧ b ≤ r.length ∧ (∀ j, a ≤ j → j < b → zv r j = zv r a) ∧ (b < r.length → zv r b ≠ zv r a) ∧ ρ = [some (.d (yn r)), some (.own q), some (.d (.int a)), some (.d (.int b))] ∧ O2 = O') (r.length - a) ⟨a, rfl, Nat.le_refl _, ha, fun j h1 h2 => by omega, rfl, rfl⟩ ?_ ?_
      · rintro m _ _ ⟨b, rfl, ab, bn, hf', rfl, rfl⟩ R3 S3 hR3 hS3
        obtain ⟨wa, wa1, wa2⟩ := at_ O2 a hlt
        walk_at "wd"
        refine ⟨_, ln _, ?_⟩
        split
        · rename_i hb
          obtain ⟨wb, wb1, wb2⟩ := at_ O2 b hb
          refine ⟨wb, wb1, _, wb2, _, rfl, _, rfl, wa, wa1, _, wa2, _, rfl, _, rfl, ?_⟩
          show if (cA r b).2 = (cA r a).2 then _ else _
          split
          · rename_i e
            exact hR3 (r.length - (b + 1)) _ _ (by omega) ⟨b + 1, rfl, by omega, by omega, fun j h1 h2 => by
              rcases Nat.lt_or_ge j b with z | z
              · exact hf' j h1 z
              · have : j = b := by omega
                subst this
                exact e, by simp, rfl⟩
          · rename_i e
            exact hS3 _ _ ⟨b, by
              rcases Nat.lt_or_ge a b with z | z
              · exact z
              · have : a = b := by omega
                subst this
                exact absurd rfl e, bn, hf', fun _ => e, rfl, rfl⟩
        · rename_i hb
          exact hS3 _ _ ⟨b, by omega, bn, hf', fun z => absurd z hb, rfl, rfl⟩
      rintro _ _ ⟨b, ab, bn, hf', hne, rfl, rfl⟩
      have okt : km (a, b, zv r a) := by
        have := XM hr hlt
        exact ⟨ab, by show b - a ≤ 24; omega, this.1, this.2⟩
      obtain ⟨wa, wa1, wa2⟩ := at_ O2 a hlt
      have sl := (vw ⟨b - a, by omega⟩).2.1
      have il := (um ⟨(zv r a).toNat, by have := okt.2.2; simp only at this; omega⟩).2
      have eb : ((b : Int) - (a : Int)) = ((b - a : Nat) : Int) := by omega
      have i0 := okt.2.2.1
      have i1 := okt.2.2.2
      simp only at i0 i1 sl il
      have dn := cov.le
      walk_at "wd"
      rw [eb]
      have sl' : (Str.ofString ((b - a : Nat) : Int).repr).length ≤ 2 := sl
      have l1 : (Str.ofString ":").length = 1 := rfl
      refine ⟨.inl ⟨rfl, by simp [zq, hO2]⟩, by omega, by omega, by rw [l1, sizeLine_eq]; omega, wa, wa1, _, wa2, _, rfl, _, rfl, (zv r a).toNat, by rw [Int.toNat_of_nonneg i0]; rfl, by omega, yt (zv r a).toNat, rfl, by rw [strLen_append, l1, sizeLine_eq]; omega, updO O2 q (.lst ((done.map stT).map yr ++ [.d (.str (stT (a, b, zv r a)))])), ?_, hR2 (r.length - b) _ _ (by omega) ⟨done ++ [(a, b, zv r a)], b, _, rfl, bn, cov.app ⟨rfl, ab, fun j h1 h2 => hf' j h1 h2, rfl⟩, fun t ht hl => ?_, rfl, o2.upd hq, ?_⟩⟩
      · simp only [vD, hO2]
        rw [if_pos (by simp; omega)]
        rfl
      · rcases List.mem_append.1 ht with ht | ht
        · exact mx t ht hl
        · cases List.mem_singleton.1 ht
          exact hne hl
      · rw [zj, List.map_append, List.map_append]
        rfl
    · rename_i hlt
      have e : a = r.length := by omega
      subst e
      have e := YI cov (qE _ _) mx (zcQ _ _)
      rw [e] at hO2
      exact hR1 _ _ ⟨_, _, rfl, o2, hO2⟩
  rintro _ O2 ⟨v2, v3, rfl, o2, hO2⟩
  walk_at "wd"
  have ec : Str.ofString ", " = ve := rfl
  rw [ec]
  refine ⟨.inr (.inl ⟨rfl, _, rfl⟩), (stN (zv r) r.length).map stT, by simp only [zq, hO2], by decide, ?_, .inl ?_⟩
  · have := vJ ((stN (zv r) r.length).map stT) fun q hq => by
      obtain ⟨t, ht, rfl⟩ := List.mem_map.1 hq
      exact qI (xR hr t ht)
    have sl := qF (zv r) r.length
    rw [List.length_map] at this ⊢
    omega
  · rw [xO]
    exact h O2 o2
end
noncomputable def ue (L : List Str) : Str := Str.join noS (L.map (· ++ nl))
theorem XS : ∀ A : List (List Nat), jnS [] A = A.flatten
  | [] => rfl
  | [a] => by simp [jnS]
  | a :: b :: r => by
    show a ++ [] ++ jnS [] (b :: r) = _
    rw [XS (b :: r), List.append_nil]
    simp
theorem k6 (L : List Str) : (ue L).cps.toList = (L.map fun z => z.cps.toList ++ [10]).flatten := by
  unfold ue
  rw [yB]
  show jnS [] _ = _
  rw [XS, List.map_map]
  congr 1
  apply List.map_congr_left
  intro z _
  show (z ++ nl).cps.toList = _
  rw [zC]
  rfl
theorem k7 (L : List Str) (z : Str) : ue (L ++ [z]) = ue L ++ z ++ nl := by
  apply xP
  rw [zC, zC, k6, k6, List.map_append, List.flatten_append]
  simp [nl]
theorem YN {L : List Str} (h1 : L.length ≤ 24) (h2 : ∀ z ∈ L, z.length ≤ 1100) : (ue L).length ≤ 26424 := by
  have a := uz noS (L.map (· ++ nl))
  have b := uJ (L.map (· ++ nl)) fun q hq => by
    obtain ⟨z, hz, rfl⟩ := List.mem_map.1 hq
    have := h2 z hz
    rw [strLen_append]
    have : nl.length = 1 := rfl
    omega
  have : noS.length = 0 := rfl
  rw [this] at a
  rw [List.length_map] at b
  show (ue L).cps.size ≤ 26424
  rw [← Array.length_toList]
  unfold ue
  omega
section
variable {P : Program} {w : World} {K : PySem.W.Frag} {mg : Str → Option Value} {base : Heap} {f : Addr} {fd : FuncData} {bw sw hf : Addr} {se bp bs bi ba un : Addr}
theorem Xc (F : Fun K "_law_inks" "_law_inks" x6 f fd) (T : Txt P w K mg bw sw hf) (zen : Cal P w K mg base 1 "_law_text" [] (zb K jR)) : FnOk P w K mg base CX0 2 f fd ["_law_line"] (zb K qK) := by
  exact (YM F T zen).forget fun ws O R ⟨n, e, hn, h⟩ => ⟨n, e, hn, fun O' ho => ⟨ho, h⟩⟩
theorem YO (F : Fun K "_law_paper" "_law_paper" vP f fd) (T : Txt P w K mg bw sw hf) (zee : Cal P w K mg base 2 "_law_inks" [] (zb K qK)) : FnOk P w K mg base CX0 3 f fd ["_law_picture_here"] (zb K kC) := by
  have nd := uT.nd
  apply F.okV uT (by rintro _ _ _ ⟨p, rfl, _⟩; rfl) (fun cdv A outer sh H E hr => (zc (zp (i := 1) nd rfl (Or.inl rfl) zm)
      (zc (yG PassesOwn.never rfl (zG (K := K) rfl (pv 0)) (zo (i := 2) nd rfl (Or.inl rfl))
      (zf (zp (i := 1) nd rfl (Or.inl rfl) (ze yo (ze yo (pv 1) (zP (K := K) rfl PySem.F.plainAttrs_str PySem.F.slot_str_join PySem.F.type_str_join (xN (K := K) rfl) zm (QA.pa (qc (yD (yO (N := ["_law_cell"]) (n := 1) (js := [])) rfl (zG (K := K) rfl (pv 2)) (fun _ _ _ _ => (zo (i := 0) (show List.Nodup (["_law_cell"] : List Str) by decide +kernel) rfl (Or.inl rfl))) (fun _ _ _ _ => zV) (fun _ _ _ _ => (zB (yz (K := K) rfl) (pv 0) za (fun _ _ => rfl)))) qn)))) zm))))
      (zc (yG PassesOwn.never rfl (zG (K := K) rfl (pv 0)) (zo (i := 2) nd rfl (Or.inl rfl))
      (zf (zp (i := 1) nd rfl (Or.inl rfl) (ze yo (ze yo (pv 1) (zr zee (hr.mono (by decide)) rfl (QA.pa (qc (pv 2) qn)))) zm))))
      (zf (zk (pv 1)))))))
  · walk_at "ref"
  rintro _ O R ⟨p, rfl, hp, h⟩
  have es : ∀ O' : OM, zq O' (.d (pd (zy p))) = some (p.map fun r => W.d (yn r)) := fun O' => by
    show some (List.map W.d _) = _
    unfold zy
    rw [List.map_map, List.map_map]
    rfl
  have p2 := hp.2.1
  have sl : ∀ r ∈ p, (yb r).length ≤ 1100 ∧ (yg r).length ≤ 1100 := fun r hr => by
    have q := hp.2.2 r hr
    exact ⟨by rw [uI q.2.2.1]; have := q.2.1; omega, u9 q⟩
  have en : (Str.ofString "\n") = nl := rfl
  have l1 : nl.length = 1 := rfl
  refine x3 (fun ρ' O' => ∃ v2, ρ' = [some (.d (pd (zy p))), some (.d (.str (ue (p.map yb)))), v2] ∧ O = O') (fun R1 hR1 => ?_) ?_
  · walk_at "wd"
    refine ⟨_, es O, ?_⟩
    refine yq.by (fun i ρ O' => ∃ v2, ρ = [some (.d (pd (zy p))), some (.d (.str (ue ((p.map yb).take i)))), v2] ∧ O = O') ⟨_, rfl, rfl⟩ (fun _ _ _ _ => es _) ?_ ?_
    · rintro i w _ _ hw ⟨v2, rfl, rfl⟩ R2 hR2
      rw [List.getElem?_map] at hw
      obtain ⟨r, hr, rfl⟩ := Option.map_eq_some_iff.1 hw
      have ok := hp.2.2 r (List.mem_of_getElem? hr)
      have cl := YN (L := (p.map yb).take i) (by rw [List.length_take, List.length_map]; omega) fun z hz => by
        obtain ⟨q, hq, rfl⟩ := List.mem_map.1 (List.mem_of_mem_take hz)
        exact (sl q hq).1
      simp only [xy]
      walk_at "wd"
      have es3 : zq O (.d (yn r)) = some (r.map fun c => W.d (zF c)) := by
        show some (List.map W.d _) = _
        rw [List.map_map]
        rfl
      have ej : Txt.join (Str.ofString "") (r.map fun c : Cel => c.1) = yb r := by rw [xO]; rfl
      have s1 := (sl r (List.mem_of_getElem? hr)).1
      have r1 := ok.2.1
      have su := vJ (r.map fun c : Cel => c.1) fun q hq => by
        obtain ⟨c, hc, rfl⟩ := List.mem_map.1 hq
        obtain ⟨k, _, _, e⟩ := ok.2.2.1 c hc
        rw [e]
        show (1 : Nat) ≤ 43
        decide
      rw [List.length_map] at su
      refine ⟨.inr (.inl ⟨rfl, _, rfl⟩), _, es3, by rw [List.length_map]; omega, fun v => match v with | .d (.tuple [a, _]) => some a | _ => none, ?_, r.map fun c : Cel => c.1, ?_, by decide, by rw [List.length_map]; omega, ?_, ?_, ?_⟩
      · intro w hw us hu
        obtain ⟨u, rfl⟩ := List.length_eq_one_iff.1 hu
        obtain ⟨c, hc, rfl⟩ := List.mem_map.1 hw
        exact ⟨rfl, rfl, _, rfl, _, rfl, rfl⟩
      · rw [yU r (fun c => W.d (zF c)) _ (fun c => .str c.1) (fun _ => rfl)]
        show some (List.map W.d _) = _
        rw [List.map_map, List.map_map]
        rfl
      · rw [ej, sizeLine_eq]
        omega
      · rw [ej, en, l1, strLen_append, sizeLine_eq]
        omega
      · rw [ej, en]
        refine hR2 _ _ ⟨some (.d (yn r)), ?_, rfl⟩
        rw [List.take_add_one, List.getElem?_map, hr, Option.map_some, Option.toList_some, k7]
    · rintro _ _ ⟨v2, rfl, rfl⟩
      rw [List.length_map, List.take_of_length_le (by simp)]
      exact hR1 _ _ ⟨_, rfl, rfl⟩
  rintro _ _ ⟨v2, rfl, rfl⟩
  refine zZ (fun ρ' O' => ∃ v2, ρ' = [some (.d (pd (zy p))), some (.d (.str (yy p))), v2] ∧ O = O') (fun R1 hR1 => ?_) ?_
  · walk_at "wd"
    refine ⟨_, es O, ?_⟩
    refine yq.by (fun i ρ O' => ∃ v2, ρ = [some (.d (pd (zy p))), some (.d (.str (ue (p.map yb ++ (p.map yg).take i)))), v2] ∧ O = O') ⟨v2, by simp, rfl⟩ (fun _ _ _ _ => es _) ?_ ?_
    · rintro i w _ _ hw ⟨v2, rfl, rfl⟩ R2 hR2
      rw [List.getElem?_map] at hw
      obtain ⟨r, hr, rfl⟩ := Option.map_eq_some_iff.1 hw
      have ok := hp.2.2 r (List.mem_of_getElem? hr)
      have cl := YN (L := p.map yb ++ (p.map yg).take i) (by rw [List.length_append, List.length_map, List.length_take, List.length_map]; omega) fun z hz => by
        rcases List.mem_append.1 hz with hz | hz
        · obtain ⟨q, hq, rfl⟩ := List.mem_map.1 hz
          exact (sl q hq).1
        · obtain ⟨q, hq, rfl⟩ := List.mem_map.1 (List.mem_of_mem_take hz)
          exact (sl q hq).2
      simp only [xy]
      walk_at "wd"
      have s2 := (sl r (List.mem_of_getElem? hr)).2
      refine ⟨r, rfl, ok, yg r, rfl, by rw [sizeLine_eq]; omega, by rw [en, l1, strLen_append, sizeLine_eq]; omega, ?_⟩
      refine hR2 _ _ ⟨some (.d (yn r)), ?_, rfl⟩
      rw [List.take_add_one, List.getElem?_map, hr, Option.map_some, Option.toList_some, ← List.append_assoc, k7]
      rfl
    · rintro _ _ ⟨v2, rfl, rfl⟩
      rw [List.length_map, List.take_of_length_le (by simp)]
      exact hR1 _ _ ⟨_, rfl, rfl⟩
  rintro _ _ ⟨v2, rfl, rfl⟩
  walk_at "wd"
  exact .inl h
theorem zcR (F : Fun K "law" "law" VL f fd) (T : Txt P w K mg bw sw hf) (zem : Cal P w K mg base 2 "_law_stretched" [] (zb K YL)) (zeh : Cal P w K mg base 2 "_law_picture" [] (zb K VT)) (zei : Cal P w K mg base 8 "_law_refused" [] (zb K YH)) (zel : Cal P w K mg base 1 "_law_spoilt" [] (zb K V2)) (zed : Cal P w K mg base 1 "_law_at" [] (zb K Ym))
    (c_paper_of : CalX P w K mg base 7 "paper_of" [] (zS K (xY bp))) (zeg : Cal P w K mg base 3 "_law_paper" [] (zb K kC)) (zef : Cal P w K mg base 2 "_law_own" [] (zb K YG)) (zeH : CalX P w K mg base 8 "picture_of" [] (zS K YC)) : FnOk P w K mg base CX0 9 f fd ["_law_script"] (zb K sLaw24) := by
  have nd := Qp.nd
  have c_paper_of := c_paper_of.lend
  apply F.okV Qp (by rintro _ _ _ ⟨ns, rfl, _⟩; rfl) (fun cdv A outer sh H E hr => (zc (zp (i := 1) nd rfl (Or.inl rfl) (zr zem (hr.mono (by decide)) rfl (QA.pa (qc (zr zeh (hr.mono (by decide)) rfl (QA.pa (qc (pv 0) (qc za qn)))) (qc (pv 0) (qc za qn))))))
      (zc (zp (i := 2) nd rfl (Or.inl rfl) (zr zem (hr.mono (by decide)) rfl (QA.pa (qc (zr zeh (hr.mono (by decide)) rfl (QA.pa (qc (pv 0) (qc za qn)))) (qc (pv 0) (qc za qn))))))
      (zc (yG PassesOwn.never rfl (va rfl T.n_range (QA.pa (qc (ze zE za (zh (Ue rfl) (by rfl) T.n_min (by rfl) (QA.pa (qc (zh (z9 (K := K) rfl) (by rfl) T.n_len (by rfl) (QA.pa (qc (pv 0) qn))) (qc za qn))))) qn))) (zo (i := 3) nd rfl (Or.inl rfl))
      (zf (zI (yj (yi (zr zei (hr.mono (by decide)) rfl (QA.pa (qc (zr zel (hr.mono (by decide)) rfl (QA.pa (qc (pv 1) (qc (ze zE (ze yM (zr zed (hr.mono (by decide)) rfl (QA.pa (qc (pv 0) (qc (ze zE za (ze yM za (pv 3))) qn)))) za) (ze zz (zr zed (hr.mono (by decide)) rfl (QA.pa (qc (pv 0) (qc (ze zE za (pv 3)) qn)))) za)) qn)))) qn))))) (zf (zk yR)) zw)))
      (zc (yG PassesOwn.never rfl (Xu (K := K) rfl (zM (qc (pv 1) (qc (pv 2) (qc (pv 1) qn))))) (zo (i := 4) nd rfl (Or.inl rfl))
      (zc (UT (i := 5) nd rfl rfl (yO (N := ["_law_row"]) (n := 1) (js := [])) rfl (zG (K := K) rfl (pv 4)) (fun _ _ _ _ => (zo (i := 0) (show List.Nodup (["_law_row"] : List Str) by decide +kernel) rfl (Or.inl rfl))) (fun _ _ _ _ => zV) (fun _ _ _ _ => (yN (zb0 (K := K) rfl) (by rfl) T.n_list rfl (QA.pa (qc (pv 0) qn)))))
      (zc (zp (i := 6) nd rfl (Or.inl rfl) (xG c_paper_of jw (hr.mono (by decide)) rfl (QA.pa (qc (pv 5) qn))))
      (zc (zI (PW.pt (xf (yj (yi (zh (yA (K := K) rfl) (by rfl) T.n_isinstance (by rfl) (QA.pa (qc (pv 6) (qc (zU (v := .ty "str") (u := .type "str") rfl T.n_str rfl rfl) qn)))))) (xf (zx vp (pv 6) (zr zeg (hr.mono (by decide)) rfl (QA.pa (qc (pv 4) qn))) (zD _)) (y8 (zx (UK (K := K) rfl hr.units) (pv 5) (pv 4) (zD _)))))) (zf (zk yR)) zw)
      (zc (ym (zar (K := K) rfl PySem.F.plainAttrs_list PySem.F.slot_list_clear PySem.F.type_list_clear QM (zB (z7 (K := K) rfl) (pv 5) za (fun _ _ => rfl))))
      (zf (zI (PW.pt (xf (yj (yi (zr zef (hr.mono (by decide)) rfl (QA.pa (qc (xG zeH jw (hr.mono (by decide)) rfl (QA.pa (qc (pv 6) qn))) (qc (pv 4) qn)))))) (y8 (yj (yi (zr zef (hr.mono (by decide)) rfl (QA.pa (qc (xG zeH jw (hr.mono (by decide)) rfl (QA.pa (qc (pv 6) qn))) (qc (pv 4) qn))))))))) (zf (zk yR)) zw)))))))
      (zf (zk yR)))))))
  · walk_at "ref"
  rintro _ O R ⟨ns, rfl, hl, h⟩
  refine x3 (fun ρ' O' => ∃ r1 x1 r2 x2, PicOk r1 x1 ∧ PicOk r2 x2 ∧ ρ' = [some (.d (.list (ns.map .int))), some (.d (pd r1)), some (.d (pd r2)), none, none, none, none]) (fun R1 hR1 => ?_) ?_
  · walk_at "wd"
    exact ⟨ns, 3, rfl, by decide, by decide, fun a x O1 oka => ⟨a, x, ns, 300, rfl, oka, by decide, by decide, fun a' O2 oka' => ⟨ns, 320, rfl, by decide, by decide, fun b y O3 okb => ⟨b, y, ns, 620, rfl, okb, by decide, by decide, fun b' O4 okb' => hR1 _ _ ⟨a', x, b', y, oka', okb', rfl⟩⟩⟩⟩⟩
  rintro _ O1 ⟨r1, x1, r2, x2, ok1, ok2, rfl⟩
  refine zZ (fun ρ' O' => ∃ v3, ρ' = [some (.d (.list (ns.map .int))), some (.d (pd r1)), some (.d (pd r2)), v3, none, none, none]) (fun R1 hR1 => ?_) ?_
  · walk_at "wd"
    refine ⟨_, yE, by split <;> omega, by split <;> omega, ?_⟩
    refine yq.rng (f := fun i => (i : Int)) (fun i ρ O' => ∃ v3, ρ = [some (.d (.list (ns.map .int))), some (.d (pd r1)), some (.d (pd r2)), v3, none, none, none]) ⟨_, rfl⟩ ?_ ?_
    · rintro i _ O' hi ⟨v3, rfl⟩ R2 hR2
      have hi : i ≤ 20 := by split at hi <;> omega
      walk_at "wd"
      refine ⟨mulL (by decide) (by decide), ns, 640 + 2 * i, rfl, by omega, by omega, fun n n0 n1 => ?_⟩
      refine ⟨mulR (by decide) (by decide), ns, 700 + i, rfl, by omega, by omega, fun m m0 m1 => ?_⟩
      refine ⟨by decide, r1, x1, _, rfl, ok1, by omega, fun d sm pb => ⟨d, rfl, sm, pb, ?_⟩⟩
      exact hR2 _ _ ⟨_, rfl⟩
    · rintro _ O' ⟨v3, rfl⟩
      exact hR1 _ _ ⟨_, rfl⟩
  rintro _ O2 ⟨v3, rfl⟩
  refine zZ (fun ρ' O' => True) (fun R1 hR1 => ?_) ?_
  · walk_at "wd"
    refine yq.by (fun i ρ O' => ∃ v4 v5 v6, ρ = [some (.d (.list (ns.map .int))), some (.d (pd r1)), some (.d (pd r2)), v3, v4, v5, v6]) ⟨_, _, _, rfl⟩ (fun _ _ _ _ => trivial) ?_ (fun _ _ _ => hR1 _ _ trivial)
    rintro i w _ O' hw ⟨v4, v5, v6, rfl⟩ R2 hR2
    obtain ⟨rw_, x, rfl, ok⟩ : ∃ rw_ x, w = .d (pd rw_) ∧ PicOk rw_ x := by
      have m := List.mem_of_getElem? hw
      simp only [List.mem_cons, List.not_mem_nil, or_false] at m
      rcases m with rfl | rfl | rfl
      · exact ⟨r1, x1, rfl, ok1⟩
      · exact ⟨r2, x2, rfl, ok2⟩
      · exact ⟨r1, x1, rfl, ok1⟩
    obtain ⟨p, e, hp⟩ := ok.pc
    subst e
    simp only [xy]
    have es : ∀ O' : OM, zq O' (.d (pd (zy p))) = some ((zy p).map fun r => W.d (.list r)) := fun O' => by
      show some (List.map W.d _) = _
      rw [List.map_map]
      rfl
    have ph := ok.h2
    have pw := ok.w2
    refine zZ (fun ρ' O2 => ∃ a cs, ρ' = [some (.d (.list (ns.map .int))), some (.d (pd r1)), some (.d (pd r2)), v3, some (.d (pd (zy p))), some (.own a), v6] ∧ Dp O2 a cs (zy p)) (fun R3 hR3 => ?_) ?_
    · walk_at "wd"
      refine ⟨_, es O', by rw [List.length_map]; omega, fun i vs O' => ∃ cs, vs = cs.map W.own ∧ Ds O' cs ((zy p).take i), ⟨[], rfl, .nil⟩, fun i vs O' _ => es O', ?_, ?_⟩
      · rintro i w _ O' hw ⟨cs, rfl, ds⟩ us hu
        obtain ⟨u, rfl⟩ := List.length_eq_one_iff.1 hu
        rw [List.getElem?_map] at hw
        obtain ⟨r, hr, rfl⟩ := Option.map_eq_some_iff.1 hw
        refine ⟨rfl, rfl, r, ut, fun a ha => ⟨cs ++ [a], by simp, ?_⟩⟩
        rw [List.take_add_one, hr]
        exact ds.snoc ha _
      · rintro _ O' ⟨cs, rfl, ds⟩ a ha
        rw [List.length_map, List.take_length] at ds
        exact hR3 _ _ ⟨a, cs, rfl, ds.full ha⟩
    rintro _ O2 ⟨a, cs, rfl, dp⟩
    have dw : xD O2 [.own a] = some [pd (zy p)] := by simp only [xD, dp.deep]
    refine zZ (fun ρ' O3 => ρ' = [some (.d (.list (ns.map .int))), some (.d (pd r1)), some (.d (pd r2)), v3, some (.d (pd (zy p))), some (.own a), some (.d (.str (yy p)))] ∧ O2 = O3) (fun R3 hR3 => ?_) ?_
    · walk_at "wd"
      refine ⟨_, dw, _, rfl, ok.sm, fun q e ok' pb => ⟨_, rfl, rfl, ?_⟩, fun z => ?_⟩
      · cases kZ e
        exact hR3 _ _ ⟨rfl, rfl⟩
      · rw [ok.pic] at z
        cases z
    rintro _ _ ⟨rfl, rfl⟩
    obtain ⟨hsh, heq⟩ := YE fun r hr => (ok.row r hr).2
    refine zZ (fun ρ' O3 => ρ' = [some (.d (.list (ns.map .int))), some (.d (pd r1)), some (.d (pd r2)), v3, some (.d (pd (zy p))), some (.own a), some (.d (.str (yy p)))] ∧ O2 = O3) (fun R3 hR3 => ?_) ?_
    · walk_at "wd"
      refine ⟨p, rfl, hp, rfl, rfl, rfl, (iff_of_eq (if_pos (decide_eq_true (by rfl)))).mpr ⟨_, dp.deep, _, rfl, hsh, hsh, ?_⟩⟩
      rw [if_pos heq]
      exact hR3 _ _ ⟨rfl, rfl⟩
    rintro _ _ ⟨rfl, rfl⟩
    refine zZ (fun ρ' O3 => ρ' = [some (.d (.list (ns.map .int))), some (.d (pd r1)), some (.d (pd r2)), v3, some (.d (pd (zy p))), some (.own a), some (.d (.str (yy p)))]) (fun R3 hR3 => ?_) ?_
    · walk_at "wd"
      obtain ⟨b, bs', eb⟩ : ∃ b bs', cs = b :: bs' := by
        have lc : cs.length = (zy p).length := Paired.length dp.ds.pr
        have := ok.h1
        cases cs with
        | nil => simp at lc; omega
        | cons b bs' => exact ⟨b, bs', rfl⟩
      subst eb
      obtain ⟨ds, hb⟩ := dp.ds.mem (b := b) List.mem_cons_self
      exact ⟨(b :: bs').map W.own, by simp only [zq, dp.at_], .own b, Zt, .inl ⟨rfl, by simp [zq, hb]⟩, b, rfl, ⟨_, hb⟩, hR3 _ _ rfl⟩
    rintro _ O3 rfl
    walk_at "wd"
    exact ⟨p, x, rfl, hp, ok, fun a1 cs1 O4 dp1 => ⟨a1, cs1, zy p, x, rfl, dp1, ok, fun O5 => ⟨p, x, rfl, hp, ok, fun a2 cs2 O6 dp2 => ⟨a2, cs2, zy p, x, rfl, dp2, ok, fun O7 => hR2 _ _ ⟨_, _, _, rfl⟩⟩⟩⟩⟩
  rintro _ O3 _
  walk_at "wd"
  exact .inl (h _)
end
noncomputable def V3 : List Str → List Value → Bool
  | [], [] => true
  | s :: ss, .str z _ :: vs => s == z && V3 ss vs
  | _, _ => false
theorem k8 : ∀ {ss : List Str} {vs : List Value}, V3 ss vs = true → Vals (ss.map V.str) vs
  | [], [], _ => .nil
  | s :: ss, .str z t :: vs, h => by
    simp only [V3, Bool.and_eq_true, beq_iff_eq] at h
    obtain ⟨rfl, h⟩ := h
    exact .cons ⟨t, rfl⟩ (k8 h)
noncomputable def kD (K : PySem.W.Frag) (a : Addr) (ss : List Str) : Bool := match K.lookup a with
  | some o => o.cls == .type "tuple" && o.dict.isNone && (match o.data with
    | .seq its _ => decide (its.size ≤ 1000) && V3 ss its.toList
    | _ => false)
  | none => false
theorem u6 {K : PySem.W.Frag} {a : Addr} {ss : List Str} (h : kD K a ss = true) : (∃ o, K.lookup a = some o ∧ o.cls = .type "tuple" ∧ o.dict = none) ∧ ∀ Z : Hp, SqT K Z a (ss.map V.str) := by
  unfold kD at h
  split at h
  · rename_i o ho
    simp only [Bool.and_eq_true] at h
    obtain ⟨⟨h1, h2⟩, h3⟩ := h
    have h1 := beq_iff_eq.mp h1
    refine ⟨⟨o, ho, h1, by simpa using h2⟩, fun Z => .inr ?_⟩
    split at h3
    · rename_i its n hd
      simp only [Bool.and_eq_true, decide_eq_true_iff] at h3
      exact ⟨o, its, n, ho, h1, hd, by rw [sizeLine_eq]; omega, k8 h3.2⟩
    · cases h3
  · cases h
theorem fk {K : PySem.W.Frag} {h : Heap} {mg : Str → Option Value} {x : Str} {st : Stmt} {f : Addr} {oc kV doc pm cd ct : Value} {od an : Option Addr} {sl : Array (Option Value)} (X : K.In h) (G : h.Ns mainGlobals mg)
    (a : PySem.W.nsIn K mainGlobals x = some (some (.ref f))) (l : K.lookup f = some ⟨oc, od, .func (PySem.W.fnOf x x (defArgs st) (defBody st) (defScope st) .none kV doc pm an cd ct), sl⟩) (c : PySem.W.codeIn K cd x = true) (k : PySem.W.keepIn K (.ref f) = true) :
    ∃ f fd, Fun K x x st f fd ∧ mg x = some (.ref f) := ⟨f, _, zbz (st := st) l c k, PySem.W.mg_of X G a⟩
theorem all_mk {P : Program} {w : World} {K : PySem.W.Frag} {mg : Str → Option Value} {fa se bp bs bi ba un : Addr} {bw sw hf : Addr} (T : Txt P w K mg bw sw hf) (X : TxtX K mg se bp bs bi ba un) (hfa : mg "law" = some (.ref fa))
    (zfm : ∃ f fd, Fun K "_law_at" "_law_at" qm f fd ∧ mg "_law_at" = some (.ref f))
    (zfv : ∃ f fd, Fun K "_law_stretched" "_law_stretched" xi f fd ∧ mg "_law_stretched" = some (.ref f))
    (zft : ∃ f fd, Fun K "_law_size" "_law_size" ud f fd ∧ mg "_law_size" = some (.ref f))
    (zfs : ∃ f fd, Fun K "_law_sign" "_law_sign" uc f fd ∧ mg "_law_sign" = some (.ref f))
    (zfq : ∃ f fd, Fun K "_law_picture" "_law_picture" xW f fd ∧ mg "_law_picture" = some (.ref f))
    (zfL : ∃ f fd, Fun K "is_whole" "is_whole" uK f fd ∧ mg "is_whole" = some (.ref f))
    (zfK : ∃ f fd, Fun K "is_size" "is_size" qh f fd ∧ mg "is_size" = some (.ref f))
    (zfJ : ∃ f fd, Fun K "is_sign" "is_sign" qf f fd ∧ mg "is_sign" = some (.ref f))
    (zfG : ∃ f fd, Fun K "is_ink" "is_ink" jh f fd ∧ mg "is_ink" = some (.ref f))
    (zfF : ∃ f fd, Fun K "is_cell" "is_cell" qg f fd ∧ mg "is_cell" = some (.ref f))
    (zfI : ∃ f fd, Fun K "is_row" "is_row" ji f fd ∧ mg "is_row" = some (.ref f))
    (zfH : ∃ f fd, Fun K "is_picture" "is_picture" vL f fd ∧ mg "is_picture" = some (.ref f))
    (zfR : ∃ f fd, Fun K "need_picture" "need_picture" xS f fd ∧ mg "need_picture" = some (.ref f))
    (zfW : ∃ f fd, Fun K "text_of" "text_of" qi f fd ∧ mg "text_of" = some (.ref f))
    (zfy : ∃ f fd, Fun K "alike_spans" "alike_spans" vj f fd ∧ mg "alike_spans" = some (.ref f))
    (zfV : ∃ f fd, Fun K "stretches" "stretches" ub f fd ∧ mg "stretches" = some (.ref f))
    (zfA : ∃ f fd, Fun K "fore_of" "fore_of" qd f fd ∧ mg "fore_of" = some (.ref f))
    (zfz : ∃ f fd, Fun K "back_of" "back_of" qe f fd ∧ mg "back_of" = some (.ref f))
    (zfC : ∃ f fd, Fun K "ink_text" "ink_text" vt f fd ∧ mg "ink_text" = some (.ref f))
    (zfU : ∃ f fd, Fun K "stretch_text" "stretch_text" xT f fd ∧ mg "stretch_text" = some (.ref f))
    (zfE : ∃ f fd, Fun K "inks_text" "inks_text" x4 f fd ∧ mg "inks_text" = some (.ref f))
    (zfS : ∃ f fd, Fun K "paper_of" "paper_of" uL f fd ∧ mg "paper_of" = some (.ref f))
    (zfr : ∃ f fd, Fun K "_law_refused" "_law_refused" xX f fd ∧ mg "_law_refused" = some (.ref f))
    (zfu : ∃ f fd, Fun K "_law_spoilt" "_law_spoilt" vk f fd ∧ mg "_law_spoilt" = some (.ref f))
    (zfw : ∃ f fd, Fun K "_law_text" "_law_text" x5 f fd ∧ mg "_law_text" = some (.ref f))
    (zfn : ∃ f fd, Fun K "_law_inks" "_law_inks" x6 f fd ∧ mg "_law_inks" = some (.ref f))
    (zfp : ∃ f fd, Fun K "_law_paper" "_law_paper" vP f fd ∧ mg "_law_paper" = some (.ref f))
    (zfx : ∃ f fd, Fun K "_law_whole" "_law_whole" vO f fd ∧ mg "_law_whole" = some (.ref f))
    (zfo : ∃ f fd, Fun K "_law_own" "_law_own" uM f fd ∧ mg "_law_own" = some (.ref f))
    (zfP : ∃ f fd, Fun K "likely_row" "likely_row" vM f fd ∧ mg "likely_row" = some (.ref f))
    (zfN : ∃ f fd, Fun K "likely_ink" "likely_ink" vK f fd ∧ mg "likely_ink" = some (.ref f))
    (zfB : ∃ f fd, Fun K "ink_by_text" "ink_by_text" vi f fd ∧ mg "ink_by_text" = some (.ref f))
    (zfQ : ∃ f fd, Fun K "many_by_text" "many_by_text" xU f fd ∧ mg "many_by_text" = some (.ref f))
    (zfD : ∃ f fd, Fun K "inks_by_text" "inks_by_text" xV f fd ∧ mg "inks_by_text" = some (.ref f))
    (zfO : ∃ f fd, Fun K "likely_picture" "likely_picture" xh f fd ∧ mg "likely_picture" = some (.ref f))
    (zfT : ∃ f fd, Fun K "picture_of" "picture_of" vN f fd ∧ mg "picture_of" = some (.ref f))
    (zfM : ∃ f fd, Fun K "law" "law" VL f fd ∧ mg "law" = some (.ref f)) :
    ∃ fd : FuncData, (∀ (s : Shared) (v : Value), BindsTo s fd ⟨[v], []⟩ [("_law_script", v)]) ∧ ∀ base : Heap, K.In base → base.Ns mainGlobals mg → FnOk P w K mg base CX0 9 fa fd ["_law_script"] (zb K sLaw24) := by
  obtain ⟨zfX, zeL, zdC, zgy⟩ := zfm
  obtain ⟨zf6, zeU, zdL, zgH⟩ := zfv
  obtain ⟨zf4, zeS, zdJ, zgF⟩ := zft
  obtain ⟨zf3, zeR, zdI, zgE⟩ := zfs
  obtain ⟨zf1, zeP, zdG, zgC⟩ := zfq
  obtain ⟨zgm, zfa, zd1, zgX⟩ := zfL
  obtain ⟨zgl, ze9, zd0, zgW⟩ := zfK
  obtain ⟨zgk, ze8, zdZ, zgV⟩ := zfJ
  obtain ⟨zgh, ze5, zdW, zgS⟩ := zfG
  obtain ⟨zgg, ze4, zdV, zgR⟩ := zfF
  obtain ⟨zgj, ze7, zdY, zgU⟩ := zfI
  obtain ⟨zgi, ze6, zdX, zgT⟩ := zfH
  obtain ⟨zgs, zfg, zd7, zg3⟩ := zfR
  obtain ⟨zgx, zfl, zec, zg8⟩ := zfW
  obtain ⟨zf9, zeX, zdO, zgK⟩ := zfy
  obtain ⟨zgw, zfk, zeb, zg7⟩ := zfV
  obtain ⟨zgb, zeZ, zdQ, zgM⟩ := zfA
  obtain ⟨zga, zeY, zdP, zgL⟩ := zfz
  obtain ⟨zgd, ze1, zdS, zgO⟩ := zfC
  obtain ⟨zgv, zfj, zea, zg6⟩ := zfU
  obtain ⟨zgf, ze3, zdU, zgQ⟩ := zfE
  obtain ⟨zgt, zfh, zd8, zg4⟩ := zfS
  obtain ⟨zf2, zeQ, zdH, zgD⟩ := zfr
  obtain ⟨zf5, zeT, zdK, zgG⟩ := zfu
  obtain ⟨zf7, zeV, zdM, zgI⟩ := zfw
  obtain ⟨zfY, zeM, zdD, zgz⟩ := zfn
  obtain ⟨zf0, zeO, zdF, zgB⟩ := zfp
  obtain ⟨zf8, zeW, zdN, zgJ⟩ := zfx
  obtain ⟨zfZ, zeN, zdE, zgA⟩ := zfo
  obtain ⟨zgq, zfe, zd5, zg1⟩ := zfP
  obtain ⟨zgo, zfc, zd3, zgZ⟩ := zfN
  obtain ⟨zgc, ze0, zdR, zgN⟩ := zfB
  obtain ⟨zgr, zff, zd6, zg2⟩ := zfQ
  obtain ⟨zge, ze2, zdT, zgP⟩ := zfD
  obtain ⟨zgp, zfd, zd4, zg0⟩ := zfO
  obtain ⟨zgu, zfi, zd9, zg5⟩ := zfT
  obtain ⟨zgn, zfb, zd2, zgY⟩ := zfM
  rw [hfa] at zgY
  cases zgY
  refine ⟨zfb, fun s v => ?_, fun base _ _ => ?_⟩
  · obtain ⟨oc, od, kV, doc, pm, an, cdv, ct, osl, rfl, _⟩ := zd2.ex
    exact .of_eq rfl
  have zed : Cal P w K mg base 1 "_law_at" [] (zb K Ym) := ⟨zfX, zeL, _, [], Qt zdC T, zgy, zdC.kp, zdC.binds fun _ _ _ _ _ _ us hl => match us, hl with | [_, _], _ => rfl, .nil⟩
  have zem : Cal P w K mg base 2 "_law_stretched" [] (zb K YL) := ⟨zf6, zeU, _, [], jn zdL T zed, zgH, zdL.kp, zdL.binds fun _ _ _ _ _ _ us hl => match us, hl with | [_, _, _], _ => rfl, .nil⟩
  have zek : Cal P w K mg base 1 "_law_size" [] (zb K Yo) := ⟨zf4, zeS, _, [], Y7 zdJ T, zgF, zdJ.kp, zdJ.binds fun _ _ _ _ _ _ us hl => match us, hl with | [_], _ => rfl, .nil⟩
  have zej : Cal P w K mg base 1 "_law_sign" [] (zb K Yn) := ⟨zf3, zeR, _, [], Y6 zdI T, zgE, zdI.kp, zdI.binds fun _ _ _ _ _ _ us hl => match us, hl with | [_], _ => rfl, .nil⟩
  have zeh : Cal P w K mg base 2 "_law_picture" [] (zb K VT) := ⟨zf1, zeP, _, [], kq zdG T zek zed zej, zgC, zdG.kp, zdG.binds fun _ _ _ _ _ _ us hl => match us, hl with | [_, _], _ => rfl, .nil⟩
  have zeB : Cal P w K mg base 1 "is_whole" [] (zb K qJ) := ⟨zgm, zfa, _, [], Y4 zd1 T, zgX, zd1.kp, zd1.binds fun _ _ _ _ _ _ us hl => match us, hl with | [_, _, _], _ => rfl, .nil⟩
  have zeA : Cal P w K mg base 2 "is_size" [] (zb K Yl) := ⟨zgl, ze9, _, [], VQ zd0 T zeB, zgW, zd0.kp, zd0.binds fun _ _ _ _ _ _ us hl => match us, hl with | [_, _], _ => rfl, .nil⟩
  have zez : Cal P w K mg base 1 "is_sign" [] (zb K Yj) := ⟨zgk, ze8, _, [], VO zdZ T, zgV, zdZ.kp, zdZ.binds fun _ _ _ _ _ _ us hl => match us, hl with | [_], _ => rfl, .nil⟩
  have zex : Cal P w K mg base 2 "is_ink" [] (zb K VM) := ⟨zgh, ze5, _, [], Qq zdW T zeB, zgS, zdW.kp, zdW.binds fun _ _ _ _ _ _ us hl => match us, hl with | [_], _ => rfl, .nil⟩
  have zew : Cal P w K mg base 3 "is_cell" [] (zb K Yk) := ⟨zgg, ze4, _, [], VP zdV T zez zex, zgR, zdV.kp, zdV.binds fun _ _ _ _ _ _ us hl => match us, hl with | [_], _ => rfl, .nil⟩
  have zey : Cal P w K mg base 4 "is_row" [] (zb K VN) := ⟨zgj, ze7, _, [], Qr zdY T zew, zgU, zdY.kp, zdY.binds fun _ _ _ _ _ _ us hl => match us, hl with | [_, _], _ => rfl, .nil⟩
  have c_is_picture : Cal P w K mg base 5 "is_picture" [] (zb K Zs) := ⟨zgi, ze6, _, [], Zd zdX T zeA zey, zgT, zdX.kp, zdX.binds fun _ _ _ _ _ _ us hl => match us, hl with | [_], _ => rfl, .nil⟩
  have zeG : CalX P w K mg base 6 "need_picture" [] (zS K (VR bp)) := ⟨zgs, zfg, _, [], jP zd7 T X c_is_picture, zg3, zd7.kp, zd7.binds fun _ _ _ _ _ _ us hl => match us, hl with | [_], _ => rfl, .nil⟩
  have zeK : Cal P w K mg base 1 "text_of" [] (zb K kc) := ⟨zgx, zfl, _, [], VW zec T, zg8, zec.kp, zec.binds fun _ _ _ _ _ _ us hl => match us, hl with | [_], _ => rfl, .nil⟩
  have zep : Cal P w K mg base 1 "alike_spans" [] (zb K Z1) := ⟨zf9, zeX, _, [], ky zdO T, zgK, zdO.kp, zdO.binds fun _ _ _ _ _ _ us hl => match us, hl with | [_], _ => rfl, .nil⟩
  have zeJ : Cal P w K mg base 2 "stretches" [] (zb K Zq) := ⟨zgw, zfk, _, [], Yx zeb T zep, zg7, zeb.kp, zeb.binds fun _ _ _ _ _ _ us hl => match us, hl with | [_], _ => rfl, .nil⟩
  have zer : Cal P w K mg base 1 "fore_of" [] (zb K Zu) := ⟨zgb, zeZ, _, [], VU zdQ T, zgM, zdQ.kp, zdQ.binds fun _ _ _ _ _ _ us hl => match us, hl with | [_], _ => rfl, .nil⟩
  have zeq : Cal P w K mg base 1 "back_of" [] (zb K Zv) := ⟨zga, zeY, _, [], VV zdP T, zgL, zdP.kp, zdP.binds fun _ _ _ _ _ _ us hl => match us, hl with | [_], _ => rfl, .nil⟩
  have zet : Cal P w K mg base 2 "ink_text" [] (zb K Zw) := ⟨zgd, ze1, _, [], Y8 zdS T zer zeq, zgO, zdS.kp, zdS.binds fun _ _ _ _ _ _ us hl => match us, hl with | [_], _ => rfl, .nil⟩
  have zeI : Cal P w K mg base 3 "stretch_text" [] (zb K VX) := ⟨zgv, zfj, _, [], jS zea T zet, zg6, zea.kp, zea.binds fun _ _ _ _ _ _ us hl => match us, hl with | [_, _], _ => rfl, .nil⟩
  have zev : Cal P w K mg base 4 "inks_text" [] (zb K qK) := ⟨zgf, ze3, _, [], Yy zdU T zeJ zeI, zgQ, zdU.kp, zdU.binds fun _ _ _ _ _ _ us hl => match us, hl with | [_], _ => rfl, .nil⟩
  have c_paper_of : CalX P w K mg base 7 "paper_of" [] (zS K (xY bp)) := ⟨zgt, zfh, _, [], Xb zd8 T zeG zeK zev, zg4, zd8.kp, zd8.binds fun _ _ _ _ _ _ us hl => match us, hl with | [_], _ => rfl, .nil⟩
  have zei : Cal P w K mg base 8 "_law_refused" [] (zb K YH) := ⟨zf2, zeQ, _, [], kB zdH T X c_paper_of, zgD, zdH.kp, zdH.binds fun _ _ _ _ _ _ us hl => match us, hl with | [_], _ => rfl, .nil⟩
  have zel : Cal P w K mg base 1 "_law_spoilt" [] (zb K V2) := ⟨zf5, zeT, _, [], Zi zdK T, zgG, zdK.kp, zdK.binds fun _ _ _ _ _ _ us hl => match us, hl with | [_, _], _ => rfl, .nil⟩
  have zen : Cal P w K mg base 1 "_law_text" [] (zb K jR) := ⟨zf7, zeV, _, [], Xa zdM T, zgI, zdM.kp, zdM.binds fun _ _ _ _ _ _ us hl => match us, hl with | [_], _ => rfl, .nil⟩
  have zee : Cal P w K mg base 2 "_law_inks" [] (zb K qK) := ⟨zfY, zeM, _, [], Xc zdD T zen, zgz, zdD.kp, zdD.binds fun _ _ _ _ _ _ us hl => match us, hl with | [_], _ => rfl, .nil⟩
  have zeg : Cal P w K mg base 3 "_law_paper" [] (zb K kC) := ⟨zf0, zeO, _, [], YO zdF T zee, zgB, zdF.kp, zdF.binds fun _ _ _ _ _ _ us hl => match us, hl with | [_], _ => rfl, .nil⟩
  have zeo : Cal P w K mg base 1 "_law_whole" [] (zb K ko) := ⟨zf8, zeW, _, [], Yq zdN T, zgJ, zdN.kp, zdN.binds fun _ _ _ _ _ _ us hl => match us, hl with | [_], _ => rfl, .nil⟩
  have zef : Cal P w K mg base 2 "_law_own" [] (zb K YG) := ⟨zfZ, zeN, _, [], V0 zdE T zeo, zgA, zdE.kp, zdE.binds fun _ _ _ _ _ _ us hl => match us, hl with | [_, _], _ => rfl, .nil⟩
  have zeE : Cal P w K mg base 1 "likely_row" [] (zb K Zx) := ⟨zgq, zfe, _, [], Zg zd5 T, zg1, zd5.kp, zd5.binds fun _ _ _ _ _ _ us hl => match us, hl with | [_, _], _ => rfl, .nil⟩
  have zeC : Cal P w K mg base 1 "likely_ink" [] (zb K JN) := ⟨zgo, zfc, _, [], Ze zd3 T, zgZ, zd3.kp, zd3.binds fun _ _ _ _ _ _ us hl => match us, hl with | [_], _ => rfl, .nil⟩
  have zes : CalX P w K mg base 3 "ink_by_text" [] (zS K (ku bi)) := ⟨zgc, ze0, _, [], kw zdR T X zeC zet, zgN, zdR.kp, zdR.binds fun _ _ _ _ _ _ us hl => match us, hl with | [_], _ => rfl, .nil⟩
  have zeF : Cal P w K mg base 1 "many_by_text" [] (zb K VY) := ⟨zgr, zff, _, [], jT zd6 T, zg2, zd6.kp, zd6.binds fun _ _ _ _ _ _ us hl => match us, hl with | [_], _ => rfl, .nil⟩
  have zeu : Cal P w K mg base 4 "inks_by_text" [] (zb K qL) := ⟨zge, ze2, _, [], jU zdT T zes zeF, zgP, zdT.kp, zdT.binds fun _ _ _ _ _ _ us hl => match us, hl with | [_], _ => rfl, .nil⟩
  have zeD : Cal P w K mg base 5 "likely_picture" [] (zb K VZ) := ⟨zgp, zfd, _, [], qN zd4 T zeE zeu, zg0, zd4.kp, zd4.binds fun _ _ _ _ _ _ us hl => match us, hl with | [_], _ => rfl, .nil⟩
  have zeH : CalX P w K mg base 8 "picture_of" [] (zS K YC) := ⟨zgu, zfi, _, [], Zh zd9 T X zeD c_is_picture c_paper_of, zg5, zd9.kp, zd9.binds fun _ _ _ _ _ _ us hl => match us, hl with | [_], _ => rfl, .nil⟩
  exact zcR zd2 T zem zeh zei zel zed c_paper_of zeg zef zeH
theorem txt_mk {P : Program} {w : World} {bw sw hf : Addr} {K : PySem.W.Frag} {h : Heap} {mg : Str → Option Value} {t_LAST_INK t_WIDEST t_HIGHEST t_PERCENT_SIGN : Tok} (X : K.In h) (G : h.Ns mainGlobals mg)
    (n_len : PySem.W.nsIn K mainGlobals "len" = some none)
    (n_range : PySem.W.nsIn K mainGlobals "range" = some none)
    (n_int : PySem.W.nsIn K mainGlobals "int" = some none)
    (n_bool : PySem.W.nsIn K mainGlobals "bool" = some none)
    (n_str : PySem.W.nsIn K mainGlobals "str" = some none)
    (n_list : PySem.W.nsIn K mainGlobals "list" = some none)
    (n_tuple : PySem.W.nsIn K mainGlobals "tuple" = some none)
    (n_isinstance : PySem.W.nsIn K mainGlobals "isinstance" = some none)
    (n_ord : PySem.W.nsIn K mainGlobals "ord" = some none)
    (n_all : PySem.W.nsIn K mainGlobals "all" = some none)
    (n_min : PySem.W.nsIn K mainGlobals "min" = some none)
    (n_zip : PySem.W.nsIn K mainGlobals "zip" = some none)
    (n_enumerate : PySem.W.nsIn K mainGlobals "enumerate" = some none)
    (g_LAST_INK : PySem.W.nsIn K mainGlobals "LAST_INK" = some (some (.int 511 t_LAST_INK)))
    (g_WIDEST : PySem.W.nsIn K mainGlobals "WIDEST" = some (some (.int 24 t_WIDEST)))
    (g_HIGHEST : PySem.W.nsIn K mainGlobals "HIGHEST" = some (some (.int 12 t_HIGHEST)))
    (g_PERCENT_SIGN : PySem.W.nsIn K mainGlobals "PERCENT_SIGN" = some (some (.int 37 t_PERCENT_SIGN)))
    (g_bw : PySem.W.nsIn K mainGlobals "BITS_BY_WORD" = some (some (.ref bw)))
    (g_sw : PySem.W.nsIn K mainGlobals "STEPS_BY_WORD" = some (some (.ref sw)))
    (g_hf : PySem.W.nsIn K mainGlobals "HUE_FIGURES" = some (some (.ref hf)))
    (d_bw : DS P w K bw bitsD)
    (d_sw : DS P w K sw stepsD)
    (d_hf : kD K hf figs = true)
    : Txt P w K mg bw sw hf :=
  ⟨PySem.W.mg_none_of X G n_len, PySem.W.mg_none_of X G n_range, PySem.W.mg_none_of X G n_int, PySem.W.mg_none_of X G n_bool, PySem.W.mg_none_of X G n_str, PySem.W.mg_none_of X G n_list, PySem.W.mg_none_of X G n_tuple, PySem.W.mg_none_of X G n_isinstance, PySem.W.mg_none_of X G n_ord, PySem.W.mg_none_of X G n_all, PySem.W.mg_none_of X G n_min, PySem.W.mg_none_of X G n_zip, PySem.W.mg_none_of X G n_enumerate, ⟨t_LAST_INK, PySem.W.mg_of X G g_LAST_INK⟩, ⟨t_WIDEST, PySem.W.mg_of X G g_WIDEST⟩, ⟨t_HIGHEST, PySem.W.mg_of X G g_HIGHEST⟩, ⟨t_PERCENT_SIGN, PySem.W.mg_of X G g_PERCENT_SIGN⟩, PySem.W.mg_of X G g_bw, PySem.W.mg_of X G g_sw, PySem.W.mg_of X G g_hf, d_bw, d_sw, (u6 d_hf).1, (u6 d_hf).2⟩
theorem xclass_mk {K : PySem.W.Frag} {C : Addr} (ga : PySem.W.findIn K (.ref C) "__getattribute__" = some (some (.builtin "BaseException.__getattribute__"))) (gh : PySem.W.findIn K (.ref C) "__getattr__" = some none)
    (cl : PySem.W.findIn K (.ref C) "__class__" = some (some (.builtin "object.__class__"))) (sp : PySem.W.specialIn K (.builtin "object.__class__") "__get__" = some (some (.builtin "getset_descriptor.__get__"))) (tk : PySem.W.takesIn K (.builtin "object.__class__") = some true)
    (mo : PySem.W.mroIn K C (.type "object") = some true) (mb : PySem.W.mroIn K C (.type "BaseException") = some true) (hd : PySem.W.hasDictIn K C = true) : XClass K C :=
  ⟨ga, gh, cl, sp, tk, mo, mb, by
    obtain ⟨cd, hc, _⟩ := PySem.W.any_some hd
    rw [hc]
    rfl⟩
theorem txtx_mk {K : PySem.W.Frag} {h : Heap} {mg : Str → Option Value} {se bp bs bi ba un : Addr} (X : K.In h) (G : h.Ns mainGlobals mg) (c_se : PySem.W.nsIn K mainGlobals "ScreenError" = some (some (.ref se))) (c_bp : PySem.W.nsIn K mainGlobals "BadPicture" = some (some (.ref bp))) (c_bs : PySem.W.nsIn K mainGlobals "BadSize" = some (some (.ref bs))) (c_bi : PySem.W.nsIn K mainGlobals "BadInk" = some (some (.ref bi))) (c_ba : PySem.W.nsIn K mainGlobals "BadPaper" = some (some (.ref ba))) (c_un : PySem.W.nsIn K mainGlobals "Unlike" = some (some (.ref un))) (nv : PySem.W.nsIn K mainGlobals "ValueError" = some none) (xm_bp : PySem.W.excIn K bp [.type "ValueError", .type "Exception", .type "BaseException", .type "object"] "ValueError.__new__" = true) (xm_bi : PySem.W.excIn K bi [.type "ValueError", .type "Exception", .type "BaseException", .type "object"] "ValueError.__new__" = true) (xm_ba : PySem.W.excIn K ba [.type "ValueError", .type "Exception", .type "BaseException", .type "object"] "ValueError.__new__" = true) (xc_bp : XClass K bp) (xc_bi : XClass K bi) (xc_ba : XClass K ba) (k_bp_se : PySem.W.exmOne K (.ref bp) (.ref se) = some true) (k_bp_bp : PySem.W.kitOne K (.ref bp) (.ref bp) = some true) (k_bp_bs : PySem.W.kitOne K (.ref bp) (.ref bs) = some false) (k_bp_bi : PySem.W.kitOne K (.ref bp) (.ref bi) = some false) (k_bp_ba : PySem.W.kitOne K (.ref bp) (.ref ba) = some false) (k_bp_un : PySem.W.kitOne K (.ref bp) (.ref un) = some false) (k_bp_ve : PySem.W.kitOne K (.ref bp) (.type "ValueError") = some true) (k_bi_se : PySem.W.exmOne K (.ref bi) (.ref se) = some true) (k_bi_bp : PySem.W.kitOne K (.ref bi) (.ref bp) = some false) (k_bi_bs : PySem.W.kitOne K (.ref bi) (.ref bs) = some false) (k_bi_bi : PySem.W.kitOne K (.ref bi) (.ref bi) = some true) (k_bi_ba : PySem.W.kitOne K (.ref bi) (.ref ba) = some false) (k_bi_un : PySem.W.kitOne K (.ref bi) (.ref un) = some false) (k_bi_ve : PySem.W.kitOne K (.ref bi) (.type "ValueError") = some true) (k_ba_se : PySem.W.exmOne K (.ref ba) (.ref se) = some true) (k_ba_bp : PySem.W.kitOne K (.ref ba) (.ref bp) = some false) (k_ba_bs : PySem.W.kitOne K (.ref ba) (.ref bs) = some false) (k_ba_bi : PySem.W.kitOne K (.ref ba) (.ref bi) = some false) (k_ba_ba : PySem.W.kitOne K (.ref ba) (.ref ba) = some true) (k_ba_un : PySem.W.kitOne K (.ref ba) (.ref un) = some false) (k_ba_ve : PySem.W.kitOne K (.ref ba) (.type "ValueError") = some true) : TxtX K mg se bp bs bi ba un :=
  ⟨PySem.W.mg_of X G c_se, PySem.W.mg_of X G c_bp, PySem.W.mg_of X G c_bs, PySem.W.mg_of X G c_bi, PySem.W.mg_of X G c_ba, PySem.W.mg_of X G c_un, PySem.W.mg_none_of X G nv, ⟨⟨_, _, _, _, PySem.F.excBase_ValueError, xm_bp⟩⟩, ⟨⟨_, _, _, _, PySem.F.excBase_ValueError, xm_bi⟩⟩, ⟨⟨_, _, _, _, PySem.F.excBase_ValueError, xm_ba⟩⟩, xc_bp, xc_bi, xc_ba, k_bp_se, k_bp_bp, k_bp_bs, k_bp_bi, k_bp_ba, k_bp_un, k_bp_ve, k_bi_se, k_bi_bp, k_bi_bs, k_bi_bi, k_bi_ba, k_bi_un, k_bi_ve, k_ba_se, k_ba_bp, k_ba_bs, k_ba_bi, k_ba_ba, k_ba_un, k_ba_ve⟩
end K24
noncomputable def PySem.W.Fast.tw5716155753131850993 : Unit := ()
noncomputable def PySem.W.Fast.tw8109984834526143148 : Unit := ()
noncomputable def PySem.W.Fast.tw9715554354711362469 : Unit := ()
noncomputable def PySem.W.Fast.tw17265011122905495178 : Unit := ()
noncomputable def PySem.W.Fast.tw4465110010642990765 : Unit := ()
noncomputable def PySem.W.Fast.tw13869974057133524708 : Unit := ()
noncomputable def PySem.W.Fast.tw11068667779525231279 : Unit := ()
noncomputable def PySem.W.Fast.tw4388599292719037612 : Unit := ()
noncomputable def PySem.W.Fast.tw13870913055713561320 : Unit := ()
noncomputable def PySem.W.Fast.tw14536047789863702194 : Unit := ()
noncomputable def PySem.W.Fast.tw16405495535189383168 : Unit := ()
noncomputable def PySem.W.Fast.tw14499540514500645468 : Unit := ()
noncomputable def PySem.W.Fast.tw3484890163038740801 : Unit := ()
noncomputable def PySem.W.Fast.tw12836121841759268854 : Unit := ()
noncomputable def PySem.W.Fast.tw12739382302501912914 : Unit := ()
noncomputable def PySem.W.Fast.tw8634114002652539903 : Unit := ()
noncomputable def PySem.W.Fast.tw6085295845417934756 : Unit := ()
noncomputable def PySem.W.Fast.tw15504001649477529620 : Unit := ()
noncomputable def PySem.W.Fast.tw8494810165047205786 : Unit := ()
noncomputable def PySem.W.Fast.tw3998736969190841317 : Unit := ()
noncomputable def PySem.W.Fast.tw1896396109431051204 : Unit := ()
noncomputable def PySem.W.Fast.tw8275584388982497495 : Unit := ()
noncomputable def PySem.W.Fast.tw830039668989510707 : Unit := ()
noncomputable def PySem.W.Fast.tw4534517552438126603 : Unit := ()
noncomputable def PySem.W.Fast.tw15037136236755739066 : Unit := ()
noncomputable def PySem.W.Fast.tw10749504046736030179 : Unit := ()
noncomputable def PySem.W.Fast.tw4773205299466635586 : Unit := ()
noncomputable def PySem.W.Fast.tw4200987247529329731 : Unit := ()
noncomputable def PySem.W.Fast.tw9924998339158766531 : Unit := ()
noncomputable def PySem.W.Fast.tw11491283301117823177 : Unit := ()
noncomputable def PySem.W.Fast.tw14104803297820698743 : Unit := ()
noncomputable def PySem.W.Fast.tw12778918266423657961 : Unit := ()
noncomputable def PySem.W.Fast.tw13387739213935109488 : Unit := ()
noncomputable def PySem.W.Fast.tw2813997732720745470 : Unit := ()
noncomputable def PySem.W.Fast.tw1321799730412803394 : Unit := ()
noncomputable def PySem.W.Fast.tw16890014007758970447 : Unit := ()
noncomputable def PySem.W.Fast.tw7057874964184753129 : Unit := ()
noncomputable def PySem.W.Fast.tw11810491168990190420 : Unit := ()
noncomputable def PySem.W.Fast.tw17030677139314816066 : Unit := ()
noncomputable def PySem.W.Fast.tw11841946216232064165 : Unit := ()
noncomputable def PySem.W.Fast.tw10373683283465248600 : Unit := ()
noncomputable def PySem.W.Fast.tw15342772309879612798 : Unit := ()
noncomputable def PySem.W.Fast.tw6695788399541029465 : Unit := ()
noncomputable def PySem.W.Fast.tw7300096923167553986 : Unit := ()
noncomputable def PySem.W.Fast.tw16026152924251382957 : Unit := ()
noncomputable def PySem.W.Fast.tw11123877558461813808 : Unit := ()
noncomputable def PySem.W.Fast.tw2201439819406255107 : Unit := ()
noncomputable def PySem.W.Fast.tw18348243307453992615 : Unit := ()
noncomputable def PySem.W.Fast.tw12471928738074860197 : Unit := ()
noncomputable def PySem.W.Fast.tw9754454416071125507 : Unit := ()
noncomputable def PySem.W.Fast.tw12693387304237939136 : Unit := ()
noncomputable def PySem.W.Fast.tw2580722540340581901 : Unit := ()
noncomputable def PySem.W.Fast.tw12698246060123662899 : Unit := ()
noncomputable def PySem.W.Fast.tw9857736497889823949 : Unit := ()
noncomputable def PySem.W.Fast.tw12582672589993628068 : Unit := ()
noncomputable def PySem.W.Fast.tw7524921638425298892 : Unit := ()
noncomputable def PySem.W.Fast.tw10995706632097039042 : Unit := ()
noncomputable def PySem.W.Fast.tw13453159328928485381 : Unit := ()
noncomputable def PySem.W.Fast.tw5968840724673979907 : Unit := ()
noncomputable def PySem.W.Fast.tw5452041885590092000 : Unit := ()
open PySem PySem.W PyProof.Rows
set_option maxRecDepth 100000 in
set_option maxHeartbeats 0 in
theorem PySem.Challenge.cw_signscreen_k24_papers_holds : PySem.Challenge.rw_signscreen_k24_papers.Holds := by
  w_on; o_law; k_head; (case hw => w_witness2)
  k_fill
  refine L2.walkW (l := PySem.Challenge.rw_signscreen_k24_papers) (n := 63) (k := 9) (x := "_law_script") (s := K24.sLaw24) rfl (by decide) rfl ⟨rfl, by decide, by decide, rfl⟩ (fun w h Y => PySem.W.kIn_of Y) ?F (fun ns O R hl hb hR => ⟨ns, rfl, hl, hR⟩)
  case F =>
    intro w mg fa h KX G hmg
    refine' K24.all_mk ?T ?X hmg ?zfm ?zfv ?zft ?zfs ?zfq ?zfL ?zfK ?zfJ ?zfG ?zfF ?zfI ?zfH ?zfR ?zfW ?zfy ?zfV ?zfA ?zfz ?zfC ?zfU ?zfE ?zfS ?zfr ?zfu ?zfw ?zfn ?zfp ?zfx ?zfo ?zfP ?zfN ?zfB ?zfQ ?zfD ?zfO ?zfT ?zfM
    case T =>
      refine' K24.txt_mk KX G ?n_len ?n_range ?n_int ?n_bool ?n_str ?n_list ?n_tuple ?n_isinstance ?n_ord ?n_all ?n_min ?n_zip ?n_enumerate ?g_LAST_INK ?g_WIDEST ?g_HIGHEST ?g_PERCENT_SIGN ?g_bw ?g_sw ?g_hf ?d_bw ?d_sw ?d_hf
      (case n_len => k_is)
      (case n_range => k_is)
      (case n_int => k_is)
      (case n_bool => k_is)
      (case n_str => k_is)
      (case n_list => k_is)
      (case n_tuple => k_is)
      (case n_isinstance => k_is)
      (case n_ord => k_is)
      (case n_all => k_is)
      (case n_min => k_is)
      (case n_zip => k_is)
      (case n_enumerate => k_is)
      (case g_LAST_INK => k_is)
      (case g_WIDEST => k_is)
      (case g_HIGHEST => k_is)
      (case g_PERCENT_SIGN => k_is)
      (case g_bw => k_is)
      (case g_sw => k_is)
      (case g_hf => k_is)
      (case d_bw => exact L2.DS.of (by kernel_rfl) (by decide +kernel) (by kernel_rfl))
      (case d_sw => exact L2.DS.of (by kernel_rfl) (by decide +kernel) (by kernel_rfl))
      (case d_hf => kernel_rfl)
    case X =>
      refine' K24.txtx_mk KX G ?c_se ?c_bp ?c_bs ?c_bi ?c_ba ?c_un ?nv ?xm_bp ?xm_bi ?xm_ba ?xc_bp ?xc_bi ?xc_ba ?k_bp_se ?k_bp_bp ?k_bp_bs ?k_bp_bi ?k_bp_ba ?k_bp_un ?k_bp_ve ?k_bi_se ?k_bi_bp ?k_bi_bs ?k_bi_bi ?k_bi_ba ?k_bi_un ?k_bi_ve ?k_ba_se ?k_ba_bp ?k_ba_bs ?k_ba_bi ?k_ba_ba ?k_ba_un ?k_ba_ve
      (case c_se => k_is)
      (case c_bp => k_is)
      (case c_bs => k_is)
      (case c_bi => k_is)
      (case c_ba => k_is)
      (case c_un => k_is)
      (case nv => k_is)
      (case xm_bp => k_exc)
      (case xm_bi => k_exc)
      (case xm_ba => k_exc)
      (case xc_bp => (refine' K24.xclass_mk ?ga ?gh ?cl ?sp ?tk ?mo ?mb ?hd; (case ga => k_is); (case gh => k_is); (case cl => k_is); (case sp => k_is); (case tk => k_is); (case mo => k_is); (case mb => k_is); (case hd => k_is)))
      (case xc_bi => (refine' K24.xclass_mk ?ga ?gh ?cl ?sp ?tk ?mo ?mb ?hd; (case ga => k_is); (case gh => k_is); (case cl => k_is); (case sp => k_is); (case tk => k_is); (case mo => k_is); (case mb => k_is); (case hd => k_is)))
      (case xc_ba => (refine' K24.xclass_mk ?ga ?gh ?cl ?sp ?tk ?mo ?mb ?hd; (case ga => k_is); (case gh => k_is); (case cl => k_is); (case sp => k_is); (case tk => k_is); (case mo => k_is); (case mb => k_is); (case hd => k_is)))
      (case k_bp_se => kts_exm)
      (case k_bp_bp => kit_is)
      (case k_bp_bs => kit_is)
      (case k_bp_bi => kit_is)
      (case k_bp_ba => kit_is)
      (case k_bp_un => kit_is)
      (case k_bp_ve => kit_is)
      (case k_bi_se => kts_exm)
      (case k_bi_bp => kit_is)
      (case k_bi_bs => kit_is)
      (case k_bi_bi => kit_is)
      (case k_bi_ba => kit_is)
      (case k_bi_un => kit_is)
      (case k_bi_ve => kit_is)
      (case k_ba_se => kts_exm)
      (case k_ba_bp => kit_is)
      (case k_ba_bs => kit_is)
      (case k_ba_bi => kit_is)
      (case k_ba_ba => kit_is)
      (case k_ba_un => kit_is)
      (case k_ba_ve => kit_is)
    all_goals (refine' K24.fk KX G ?a ?l ?c ?k; (case a => k_is); (case l => k_is); (case c => k_is); (case k => k_is))
