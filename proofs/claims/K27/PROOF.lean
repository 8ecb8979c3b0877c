import PyProof.Rows.All
import Wide.All
import OpenK.AllK
import Wide.FinOn
import Lean
import PyProof.EqAt
import PyProof.EqKinds
import PyProof.TupleCall
import KE.KDictOf
import PyProof.AttrMissHeap
import PyProof.Seq
import PyProof.Rows.Tup
import PyProof.DictUpdate
import PyProof.DictFindH
import PyProof.TupleKey
import KE.KTryMore
import KE.KDictSum
import PyProof.Rows.SortWalk
import PyProof.EnumStmt
import PyProof.EnumMake
import PyProof.EnumFor
import PyProof.Rows.Range3
import PyProof.ReprRoads
import PyProof.Rows.MinMaxN
import KE.KMinBuiltin
import PyProof.Rows.CallKwBuiltin
import KE.KTabLook
import KE.LcSums
import KE.KIntText
import PyProof.Rows.StrIndexOr
import PyProof.FString5
import PyProof.StrBlockH
import PyProof.SliceStr2
import KE.KDictList
import PyProof.ListRange
import PyProof.StrLawsChain
import PyProof.StrLawsTight
import KE.IntTextLaws
import PyProof.Rows.StrSplitAre
import PyProof.Rows.ReprOcc
import PyProof.Rows.StrFin3
import PyProof.Draws
import PyProof.ZipIter
import PyProof.StrCalls
import PyProof.DictItems
import KE.KPairComp
import PyProof.MeetsSeq2
import PyProof.Rows.FStr
import PyProof.Rows.StrInSeq3
import PyProof.StrLoop
import PyProof.ListNew
import PyProof.CollectWalk
import PyProof.Rows.StrNews2
import PySem.Challenge.RW_signscreen_k27_ways_done
set_option compiler.extract_closed false
set_option Elab.async false
set_option linter.all false
set_option maxRecDepth 100000
set_option maxHeartbeats 4000000
namespace PySem
theorem uM : typeLookup (.type "list") "keys" = pure none := by rw [typeLookup_type, builtinLookup_eq_fast]; kernel_rfl
theorem xo : entryFor table "dict.update.loop" = some Builtin.«dict.update.loop» := entryFor_of_tree (by kernel_rfl)
theorem yl : plainId "dict.update.loop" = true := by decide +kernel
section
variable {prog : Program} {w : World} {A : Around} {E : Value → Shared → Prop} {s : Shared}
theorem qN {a : Addr} {o : Obj} {xs : Array Value} {k : Nat} {Q : Option Value → Shared → Prop}
    (hx : s.heap.get? a = some o) (hc : o.cls = .type "list") (hdat : o.data = .seq xs k) (hd : o.dict = none) (hA : A.handled = none)
    (h : ∀ h' tk, (∀ b u, s.heap.get? b = some u → h'.get? b = some u) → Q none { s with heap := h', toks := tk }) :
    wpAny (model prog w) A (getAttr? (.ref a) "keys") Q E s := by
  obtain ⟨c, dct, dat, sl⟩ := o
  simp only at hc hdat hd
  subst hc hdat hd
  obtain ⟨hp, g, d, tk, os⟩ := s
  have hT : ∀ tk', (⟨hp, g, d, tk', os⟩ : Shared).TypeIs (.ref a) "list" := fun _ => ⟨_, hx, rfl⟩
  have f1 := sub_AttributeError
  have f3 := F.slot_list_getattribute.lookup
  have f4 := F.slot_list_getattribute.bind (.ref a)
  have f5 := am_list_getattr_none
  have hname : (["__module__", "__name__", "__qualname__", "__doc__", "__annotations__"] : List Str).contains "keys" = false := by decide
  unfold getAttr? getAttrBy? getAttrBy
  repeat (any_goals (first | assumption | exact hT _ | ((with_reducible show wpAny _ _ (call (Value.builtin "list.__getattribute__") _ _) _ _ _); refine call_meets F.slot_list_getattribute (hT _) am_entry_list_getattribute (F.args_list_getattribute_2 _ _) (meets_getattribute_miss_list a xs k sl "keys" _ uM hname (by decide)) ⟨hx, hA, fun h' tk' e hx' => ?_⟩) | wp_step))
  obtain ⟨t', u', he⟩ := hx'.there
  show wpAny _ _ (getattributeRaised _ _ _ _ _ _ _) _ _ _
  unfold getattributeRaised
  repeat (any_goals (first | assumption | wp_step))
  exact h _ _ hx'.keeps
end
section
variable {prog : Program} {w : World} {A : Around} {K : Type} [DecidableEq K] {knd : KeyKind prog w K}
end
end PySem
namespace PySem
open Sem (wp)
noncomputable def zx {K : Type} [DecidableEq K] (xs more : List (K × Addr × Value)) : List (K × Addr × Value) := more.foldl (fun acc x => storedH acc x.1 x.2.1 x.2.2) xs
section
variable {K : Type} [DecidableEq K]
theorem vt (xs more : List (K × Addr × Value)) (i : Nat) (x : K × Addr × Value) (h : more[i]? = some x) : zx xs (more.take (i + 1)) = storedH (zx xs (more.take i)) x.1 x.2.1 x.2.2 := by
  simp [zx, List.take_add_one, h, List.foldl_append]
theorem vv (xs : List (K × Addr × Value)) (k : K) (a : Addr) (v : Value) : (storedH xs k a v).length ≤ xs.length + 1 := by
  unfold storedH
  split <;> simp
theorem qO (xs more : List (K × Addr × Value)) : (zx xs more).length ≤ xs.length + more.length := by
  induction more generalizing xs with
  | nil => simp [zx]
  | cons x zE ih =>
    have e1 := ih (storedH xs x.1 x.2.1 x.2.2)
    have e2 := vv xs x.1 x.2.1 x.2.2
    simp only [zx, List.foldl_cons, List.length_cons] at e1 ⊢
    omega
theorem jz {xs : List (K × Addr × Value)} {k : K} (h : k ∉ xs.map (·.1)) : atKey xs k = none :=
  atKey_none_of_get fun j p e => h (List.mem_map.2 ⟨_, List.mem_of_getElem? e, rfl⟩)
theorem uN (acc more : List (K × Addr × Value)) (hn : ((acc ++ more).map (·.1)).Nodup) : zx acc more = acc ++ more := by
  induction more generalizing acc with
  | nil => simp [zx]
  | cons x zE ih =>
    have hf : x.1 ∉ acc.map (·.1) := fun m => by
      rw [List.map_append, List.map_cons, List.nodup_append] at hn
      exact hn.2.2 _ m _ List.mem_cons_self rfl
    have : zx acc (x :: zE) = zx (acc ++ [x]) zE := by
      simp only [zx, List.foldl_cons, storedH_new (jz hf)]
    rw [this, ih (acc ++ [x]) (by simpa using hn)]
    simp
end
section
variable {prog : Program} {w : World} {K : Type} [DecidableEq K] {knd : HeapKind prog w K} {A : Around} {E : Value → Shared → Prop} {s : Shared}
theorem yR {d a : Addr} {xs : List (K × Addr × Value)} {k : K} {v : Value} {Q : Unit → Shared → Prop} (hu : knd.room A) (hkey : knd.is s.heap k a) (hm : s.heap.DictOfH knd d xs)
    (hQ : ∀ h', h'.DictOfH knd d (storedH xs k a v) → Heap.SameBut d s.heap h' → Q () { s with heap := h' })
    (hsz : xs.length ≤ sizeLine := by size_fits) :
    wpAny (model prog w) A (dictSetHashed d (.ref a) (knd.hash k) v) Q E s := by
  obtain ⟨o, es, ep, ho, hc, hd, he, his, hn⟩ := hm
  unfold dictSetHashed
  try with_reducible refine wpAny_holding ?_
  refine wpAny_bind (wpAny_dictFind_heap hu hkey ho hd he his hn ?_ ?_)
  · intro hno
    have hnot : k ∉ xs.map (·.1) := not_mem_keys_of_get hno
    refine wpAny_bind (wpAny_rule (wpAny_updateDictKeys (hz := by have e := size_of_entries he; omega) ho hd (hQ _ ⟨_, _, ep + 1, Heap.get?_update_self _ ho (Obj.isFreed_of_dict (Obj.data_mapDictKeys hd _)),
      hc.mapDictKeys _, Obj.data_mapDictKeys hd _, ?_, ?_, ?_⟩ (Heap.SameBut.update ..))))
    · rw [storedH_new (atKey_none_of_get hno)]
      simp [he, entryOfKey]
    · rw [storedH_new (atKey_none_of_get hno)]
      intro x hx
      rcases List.mem_append.mp hx with hx | hx
      · exact knd.keeps (his x hx) ho hd (Heap.SameBut.update ..)
      · simp only [List.mem_singleton] at hx
        subst hx
        exact knd.keeps hkey ho hd (Heap.SameBut.update ..)
    · rw [storedH_new (atKey_none_of_get hno)]
      rw [List.map_append, List.nodup_append]
      refine ⟨hn, by simp, ?_⟩
      intro x hx y hy
      simp only [List.map_cons, List.map_nil, List.mem_singleton] at hy
      subst hy
      exact fun e => hnot (e ▸ hx)
  · intro j p hj
    refine wpAny_bind (wpAny_rule (wpAny_bind (wpAny_updateDict ho hd (wpAny_point (hQ _ ⟨_, _, ep, Heap.get?_update_self _ ho (Obj.isFreed_of_dict (Obj.data_mapDict hd _)),
      hc.mapDict _, Obj.data_mapDict hd _, ?_, ?_, ?_⟩ (Heap.SameBut.update ..))))))
    · rw [storedH_old (atKey_of_get hn hj)]
      have := modify_map_putAt (entryOfKey knd) (fun e : DictEntry => { e with val := v }) k v (fun _ _ => rfl) hn hj
      rw [← he] at this
      obtain ⟨l⟩ := es
      simpa using this
    · rw [storedH_old (atKey_of_get hn hj)]
      intro x hx
      obtain ⟨y, hy, rfl⟩ := List.mem_map.mp hx
      unfold putAt
      split <;> exact knd.keeps (his y hy) ho hd (Heap.SameBut.update ..)
    · rw [storedH_old (atKey_of_get hn hj)]
      rw [keys_map_putAt]; exact hn
theorem qP {xs : List (K × Addr × Value)} (hn : (xs.map fun x => knd.hash x.1).Nodup) {e : DictEntry} (he : e ∈ xs.map (entryOfKey knd)) : ((xs.map (entryOfKey knd)).filter (·.hash == e.hash)).length ≤ 1 := by
  induction xs with
  | nil => simp
  | cons x xs ih =>
    rw [List.map_cons, List.nodup_cons] at hn
    have no : ∀ c : Int, c ∉ xs.map (fun x => knd.hash x.1) → (xs.map (entryOfKey knd)).filter (·.hash == c) = [] := fun c hc => by
      rw [List.filter_eq_nil_iff]
      intro y hy q
      obtain ⟨z, hz, rfl⟩ := List.mem_map.1 hy
      exact hc (List.mem_map.2 ⟨z, hz, by simpa [entryOfKey] using q⟩)
    rw [List.map_cons, List.filter_cons]
    split
    · rename_i q
      have q : knd.hash x.1 = e.hash := by simpa [entryOfKey] using q
      rw [no e.hash (by rw [← q]; exact hn.1)]
      simp
    · rename_i q
      rw [List.map_cons] at he
      rcases List.mem_cons.1 he with h | h
      · subst h
        simp at q
      · exact ih hn.2 h
theorem yI {id : String} {d : Addr} {o : Obj} {es ep} {xs : List (K × Addr × Value)} {Q : Array DictEntry → Shared → Prop} (ho : s.heap.get? d = some o) (hd : o.data = .dict es ep) (he : es.toList = xs.map (entryOfKey knd))
    (hq : ∀ x ∈ xs, ∃ b : Bool, ∀ Q' : Bool → Shared → Prop, Q' b s → wpAny (model prog w) A (Builtin.Dict.quietEq (.ref x.2.1)) Q' E s) (hn : (xs.map fun x => knd.hash x.1).Nodup) (h : Q es s) :
    wpAny (model prog w) A (Builtin.Dict.entriesForEmpty id d) Q E s := by
  unfold Builtin.Dict.entriesForEmpty
  refine wpAny_bind (wpAny_dictEntries ho hd ?_)
  refine wpAny_bind ?_
  rw [← Array.forIn_toList]
  refine wpAny_forIn_list _ (fun zE _ s' => s' = s ∧ ∀ e ∈ zE, e ∈ es.toList) _ ?_ ?_ _ _ ⟨rfl, fun e he => he⟩
  · rintro e zE b s' ⟨rfl, hm⟩
    have me : e ∈ xs.map (entryOfKey knd) := he ▸ hm e List.mem_cons_self
    obtain ⟨x, hx, ex⟩ := List.mem_map.1 me
    obtain ⟨b, hb⟩ := hq x hx
    have ek : e.key = .ref x.2.1 := by rw [← ex]; rfl
    have fl : ¬ (es.filter (·.hash == e.hash)).size > 1 := by
      have := qP hn me
      rw [← he] at this
      rw [← Array.length_toList, Array.toList_filter]
      omega
    rw [ek]
    refine wpAny_bind (hb _ ?_)
    have fin : s' = s' ∧ ∀ e ∈ zE, e ∈ es.toList := ⟨rfl, fun e he => hm e (List.mem_cons_of_mem _ he)⟩
    cases b with
    | true => exact wpAny_pure fin
    | false =>
      rw [if_pos (by decide), if_neg fl]
      exact wpAny_pure fin
  · rintro b s' ⟨rfl, _⟩
    exact wpAny_pure h
theorem xz {nm : String} {d o : Addr} {xs more : List (K × Addr × Value)} {Q : Unit → Shared → Prop} (hu : knd.room A) (hdo : d ≠ o) (hoS : (o == sysModules) = false)
    (hd : s.heap.DictOfH knd d xs) (ho : s.heap.DictOfH knd o more) (hn : (more.map fun x => knd.hash x.1).Nodup) (hq : ∀ x ∈ more, ∃ b : Bool, ∀ Q' : Bool → Shared → Prop, Q' b s → wpAny (model prog w) A (Builtin.Dict.quietEq (.ref x.2.1)) Q' E s)
    (hQ : ∀ h', h'.DictOfH knd d (zx xs more) → Heap.SameBut d s.heap h' → Q () { s with heap := h' })
    (hsz : xs.length + more.length ≤ sizeLine := by size_fits) :
    wpAny (model prog w) A (Builtin.Dict.mergeDict nm d o) Q E s := by
  obtain ⟨od, esd, epd, hod, hcd, hdd, hed, hid, hnd⟩ := id hd
  obtain ⟨oo, eso, epo, hoo, hco, hdo', heo, hio, hno⟩ := id ho
  unfold Builtin.Dict.mergeDict
  rw [if_neg (by simpa using hdo)]
  unfold Builtin.Dict.showsAll
  rw [if_neg (by rw [hoS]; exact Bool.false_ne_true)]
  refine wpAny_bind (wpAny_pure ?_)
  refine wpAny_bind (wpAny_dictEntries hoo hdo' ?_)
  have hlen : more.length = eso.size := (size_of_entries heo).symm
  have loop : wpAny (model prog w) A (do
      let epoch ← dictEpoch o
      let l ← dictEntries o
      forIn [:l.size] PUnit.unit fun i (_ : PUnit) => (do
          let l' ← dictEntries o
          match l'[i]? with
            | some e => do
              holding [e.key, e.val] (dictSetHashed d e.key e.hash e.val)
              let ep' ← dictEpoch o
              if (ep' != epoch) = true then do
                  (unsupported (toString nm ++ toString ":source-changed-during-callback") : Sem PUnit)
                  pure (ForInStep.yield PUnit.unit)
                else pure (ForInStep.yield PUnit.unit)
            | _ => do
              (unsupported "internal:dict-merge" : Sem PUnit)
              pure (ForInStep.yield PUnit.unit) : Sem (ForInStep PUnit))
      pure ()) Q E s := by
    refine wpAny_bind (wpAny_dictEpoch hoo hdo' ?_)
    refine wpAny_bind (wpAny_dictEntries hoo hdo' ?_)
    refine wpAny_bind ?_
    rw [Std.Legacy.Range.forIn_eq_forIn_range']
    simp only [Std.Legacy.Range.size, Nat.sub_zero, Nat.add_sub_cancel, Nat.div_one]
    refine wpAny_forIn_list _
      (fun zE _ s' => ∃ h' i, s' = { s with heap := h' } ∧ zE = List.range' i (eso.size - i) ∧ i ≤ eso.size ∧ h'.DictOfH knd d (zx xs (more.take i)) ∧ h'.get? o = some oo ∧ Heap.SameBut d s.heap h')
      _ ?_ ?_ _ _ ⟨s.heap, 0, rfl, by simp, Nat.zero_le _, by simpa [zx] using hd, hoo, Heap.SameBut.refl _ _⟩
    · rintro x zE b s' ⟨h', i, rfl, hr, hi, hd', hoo', hs'⟩
      have hlt : i < eso.size := by
        rcases Nat.lt_or_ge i eso.size with h | h
        · exact h
        · rw [Nat.sub_eq_zero_of_le h] at hr; simp at hr
      obtain ⟨rfl, hrest⟩ : x = i ∧ zE = List.range' (i + 1) (eso.size - (i + 1)) := by
        have e : eso.size - i = (eso.size - (i + 1)) + 1 := by omega
        rw [e, List.range'_succ] at hr
        injection hr with h1 h2
        exact ⟨h1, h2⟩
      refine wpAny_bind (wpAny_dictEntries hoo' hdo' ?_)
      obtain ⟨kv, hkv⟩ : ∃ kv, more[x]? = some kv := ⟨more[x]'(by rw [hlen]; exact hlt), List.getElem?_eq_getElem _⟩
      rw [entry_at heo x, hkv]
      show wpAny _ _ (holding [Value.ref kv.2.1, kv.2.2] (dictSetHashed d (.ref kv.2.1) (knd.hash kv.1) kv.2.2) >>= _) _ _ _
      have hmx : (zx xs (more.take x)).length ≤ sizeLine := by
        have e1 := qO xs (more.take x)
        have e2 : (more.take x).length ≤ more.length := by rw [List.length_take]; omega
        omega
      have hkey : knd.is h' kv.1 kv.2.1 := knd.keeps (hio kv (List.mem_of_getElem? hkv)) hod hdd hs'
      refine wpAny_bind (wpAny_holding (yR (hsz := hmx) hu hkey hd' fun h'' hd'' hs'' => ?_))
      have hoo'' : h''.get? o = some oo := (hs''.2 o (Ne.symm hdo)).trans hoo'
      refine wpAny_bind (wpAny_dictEpoch hoo'' hdo' ?_)
      rw [if_neg (by simp)]
      exact wpAny_pure ⟨h'', x + 1, rfl, hrest, hlt, by rw [vt xs more x kv hkv]; exact hd'', hoo'', hs'.trans hs''⟩
    · rintro b s' ⟨h', i, rfl, hr, hi, hd', hoo', hs'⟩
      have hin : i = eso.size := by
        rcases Nat.lt_or_ge i eso.size with h | h
        · have e : eso.size - i = (eso.size - (i + 1)) + 1 := by omega
          rw [e, List.range'_succ] at hr; exact nomatch hr
        · exact Nat.le_antisymm hi h
      refine wpAny_pure (hQ h' ?_ hs')
      rw [hin, ← hlen, List.take_length] at hd'; exact hd'
  dsimp only
  split
  · refine wpAny_bind (wpAny_dictEntries hod hdd ?_)
    split
    · rename_i hemp
      have hx0 : xs = [] := by
        have h0 : esd = #[] := Array.isEmpty_iff.mp hemp
        have := size_of_entries hed; rw [h0] at this; exact List.length_eq_zero_iff.mp (by simpa using this.symm)
      subst hx0
      refine wpAny_bind (yI (knd := knd) hoo hdo' heo hq hn ?_)
      rw [uN [] more (by simpa using hno), List.nil_append] at hQ
      split
      · have hto : eso.size ≤ sizeLine + 1 := by
          simp only [List.length_nil, Nat.zero_add] at hsz
          omega
        exact wpAny_bind (wpAny_updateDictKeysTo hod hdd (wpAny_pure (hQ _ ⟨_, _, epd + 1, Heap.get?_update_self _ hod (Obj.isFreed_of_dict (Obj.data_mapDictKeys hdd _)), hcd.mapDictKeys _,
          Obj.data_mapDictKeys hdd _, heo, fun x hx => knd.keeps (hio x hx) hod hdd (Heap.SameBut.update ..), hno⟩ (Heap.SameBut.update ..))) hto)
      · rename_i hne
        have h0 : eso = #[] := Array.isEmpty_iff.mp (by simpa using hne)
        have hm0 : more = [] := List.length_eq_zero_iff.mp (by rw [hlen, h0]; rfl)
        subst hm0
        exact wpAny_pure (hQ _ hd (Heap.SameBut.refl _ _))
    · exact loop
  · exact loop
end
section
variable {prog : Program} {w : World} {A : Around} {E : Value → Shared → Prop} {s : Shared} {K : Type} [DecidableEq K] {knd : KeyKind prog w K}
theorem xU {ks : List K} {a : Addr} (hk : IsTupleKey knd s.heap ks a) {Q : Bool → Shared → Prop} (h : Q false s) : wpAny (model prog w) A (Builtin.Dict.quietEq (.ref a)) Q E s := by
  unfold Builtin.Dict.quietEq
  refine wpAny_bind (wpAny_specialOf hk.typeIs F.slot_tuple_eq.lookup (wpAny_pure ?_))
  have e : (some (Value.builtin "tuple.__eq__") == some (Value.builtin "object.__eq__")) = false := by decide
  rw [e]
  exact h
theorem IsTupleKey.there {h h' : Heap} {ks : List K} {a : Addr} (x : IsTupleKey knd h ks a) (k : ∀ o, h.get? a = some o → h'.get? a = some o) : IsTupleKey knd h' ks a := by
  obtain ⟨o, its, n, h1, r⟩ := x
  exact ⟨o, its, n, k _ h1, r⟩
theorem zS {d : Addr} {xs : List (List K × Addr × Value)} (h : s.heap.DictOfH (tupleKind knd) d xs) : s.TypeIs (.ref d) "dict" := let ⟨o, _, _, h1, h2, _⟩ := h; ⟨o, h1, h2.1⟩
theorem xV (knd : KeyKind prog w K) (d o : Addr) (hdo : d ≠ o) (hoS : (o == sysModules) = false) :
    MeetsIn prog w (Builtin.«dict.update» ⟨[.ref d, .ref o], []⟩) (fun A R s => ∃ kvs more, A.units + 1 < cLine ∧ s.heap.DictOfH (tupleKind knd) d kvs ∧ s.heap.DictOfH (tupleKind knd) o more ∧ (more.map fun x => (tupleKind knd).hash x.1).Nodup ∧ kvs.length + more.length ≤ sizeLine ∧
      ∀ h', h'.DictOfH (tupleKind knd) d (zx kvs more) → Heap.SameBut d s.heap h' → R (.ok (.ret .none)) { s with heap := h' }) :=
  .of_wp fun A R s ⟨kvs, more, hu, hd, ho, hn, hsz, h⟩ => by
    unfold Builtin.«dict.update»
    refine wpAny_bind ?_
    unfold Builtin.Dict.selfAndRest
    refine wpAny_bind (wpAny_notOrdered_dict (zS hd) ?_)
    show wpAny _ _ (pure (d, [Value.ref o])) _ _ s
    refine wpAny_pure ?_
    show wpAny _ _ (Builtin.Dict.updateFrom "dict.update" d (.ref o) [] .none) _ _ s
    unfold Builtin.Dict.updateFrom
    refine wpAny_bind (wpAny_typeOf (zS ho) ?_)
    rw [if_neg (by decide)]
    refine wpAny_bind ?_
    unfold Builtin.Dict.merge
    refine wpAny_bind ?_
    · unfold Builtin.Dict.readDirectly
      refine wpAny_bind (wpAny_isInstance (zS ho) isSubtype_dict_dict ?_)
      simp only [Bool.not_true, Bool.false_eq_true, if_false]
      refine wpAny_bind (wpAny_specialOf (zS ho) F.slot_dict_iter.lookup (wpAny_pure ?_))
      simp only [beq_self_eq_true, if_true]
      refine wpAny_bind (wpAny_pure ?_)
      refine xz (knd := tupleKind knd) (hsz := hsz) hu hdo hoS hd ho hn ?_ fun h' hd' hs' => ?_
      · obtain ⟨oo, _, _, _, _, _, _, hi, _⟩ := id ho
        exact fun x hx => ⟨false, fun Q' hq => xU (hi x hx) hq⟩
      show wpAny _ _ (Builtin.Dict.addKeywords d [] >>= _) _ _ _
      exact wpAny_bind (wpAny_pure (wpAny_pure ⟨.none, rfl, h h' hd' hs'⟩))
theorem xR {h h' : Heap} {d : Addr} {xs : List (List K × Addr × Value)} (x : h.DictOfH (tupleKind knd) d xs) (hd : ∀ o, h.get? d = some o → h'.get? d = some o) (hx : ∀ y ∈ xs, ∀ o, h.get? y.2.1 = some o → h'.get? y.2.1 = some o) : h'.DictOfH (tupleKind knd) d xs := by
  obtain ⟨o, es, ep, h1, h2, h3, h4, h5, h6⟩ := x
  exact ⟨o, es, ep, hd _ h1, h2, h3, h4, fun y hy => IsTupleKey.there (h5 y hy) (hx y hy), h6⟩
theorem qQ {xs : List (List K × Addr × Value)} {k : List K} {a : Addr} {v : Value} {y : List K × Addr × Value} (h : y ∈ storedH xs k a v) : y.2.1 = a ∨ ∃ z ∈ xs, z.2.1 = y.2.1 := by
  unfold storedH at h
  split at h
  · obtain ⟨z, hz, rfl⟩ := List.mem_map.mp h
    refine .inr ⟨z, hz, ?_⟩
    unfold putAt
    split <;> rfl
  · rcases List.mem_append.mp h with h | h
    · exact .inr ⟨y, h, rfl⟩
    · simp only [List.mem_singleton] at h
      subst h
      exact .inl rfl
theorem ku (hh : A.handled = none) (hu : A.units + 1 < cLine) {d it l : Addr} {items : Array Value} {r : Value} {R : Result → Shared → Prop} (hdi : d ≠ it) (hdl : d ≠ l) (hil : it ≠ l) :
    ∀ (more : List (List K × Addr × Value)) (i : Nat) (s : Shared) (kvs : List (List K × Addr × Value)), i + more.length = items.size → s.heap.DictOfH (tupleKind knd) d kvs → (∀ y ∈ kvs, y.2.1 ≠ it) → s.heap.IsListIter it l i → s.heap.IsList l items →
      (∀ (j : Nat) kv, more[j]? = some kv → kv.2.1 ≠ it ∧ kv.2.1 ≠ d ∧ IsTupleKey knd s.heap kv.1 kv.2.1 ∧ ∃ t, items[i + j]? = some (.ref t) ∧ t ≠ d ∧ t ≠ it ∧ PyProof.Rows.IsTup s.heap t #[.ref kv.2.1, kv.2.2]) → kvs.length + more.length ≤ sizeLine →
      (∀ h' tk, h'.DictOfH (tupleKind knd) d (zx kvs more) → (∀ c o, c ≠ d → c ≠ it → s.heap.get? c = some o → h'.get? c = some o) → R (.ok (.ret r)) { s with heap := h', toks := tk }) →
      codeAny (model prog w) A (.builtin "dict.update.loop" ⟨[.ref d, .ref it, rawInt i, r], []⟩) R s := by
  intro more
  induction more with
  | nil =>
    intro i s kvs hi hd hki hit hl hp hz hR
    refine codeAny_builtin xo ?_
    rw [Around.under_plainId yl _]
    show wpAny _ A.in1 (pyNext (.ref it) >>= _) _ _ _
    refine wpAny_bind (wpAny_pyNext_list_end (A := A.in1) hh hit hl (by simp at hi; simp; omega) fun h' eb => ?_)
    show wpAny _ _ (Builtin.Dict.addKeywords d [] >>= _) _ _ _
    exact wpAny_bind (wpAny_pure (wpAny_pure (hR h' s.toks (xR hd (fun o q => eb d o hdi q) fun y hy o q => eb _ o (hki y hy) q) fun c o _ hc q => eb c o hc q)))
  | cons kv more ih =>
    intro i s kvs hi hd hki hit hl hp hz hR
    obtain ⟨hai, had, hk, t, hx, htd, hti, ⟨o, ho, hc, n, hdat⟩⟩ := hp 0 kv rfl
    refine codeAny_builtin xo ?_
    rw [Around.under_plainId yl _]
    show wpAny _ A.in1 (pyNext (.ref it) >>= _) _ _ _
    refine wpAny_bind (wpAny_pyNext_list_item hit hl (x := .ref t) (by simpa using hx) fun h1 hit1 sb1 => ?_)
    have ho1 : h1.get? t = some o := (sb1.2 t hti).trans ho
    show wpAny _ _ (holding [.ref t] _ >>= _) _ _ _
    refine wpAny_bind (wpAny_holding ?_)
    refine wpAny_bind (wpAny_tryCatch ?_)
    unfold Builtin.Dict.pairItems
    refine wpAny_bind (wpAny_typeOf (T := "tuple") ⟨o, ho1, hc⟩ ?_)
    rw [if_pos (by decide)]
    refine wpAny_bind (wpAny_seqItems ho1 hdat ?_)
    refine wpAny_pure ?_
    show wpAny _ _ (holding [.ref kv.2.1, kv.2.2] (dictSet d (.ref kv.2.1) kv.2.2)) _ _ _
    have hd1 := xR hd (h' := h1) (fun o q => (sb1.2 d hdi).trans q) fun y hy o q => (sb1.2 _ (hki y hy)).trans q
    refine wpAny_holding (wpAny_dictSet_heap (knd := tupleKind knd) hu (hk.there fun o q => (sb1.2 _ hai).trans q) hd1 (fun h2 hd2 sb2 => ?_) (by simp at hz; omega))
    show wpAny _ _ (again (.builtin "dict.update.loop" ⟨[.ref d, .ref it, rawInt ((i : Int) + 1), r], []⟩)) _ _ _
    have ei : ((i : Int) + 1) = (((i + 1 : Nat)) : Int) := by omega
    rw [ei]
    have keep : ∀ c o, c ≠ d → c ≠ it → s.heap.get? c = some o → h2.get? c = some o := fun c o h3 h4 q => (sb2.2 c h3).trans ((sb1.2 c h4).trans q)
    refine wpAny_pure ⟨plainId_quiet yl _, ih (i + 1) _ (storedH kvs kv.1 kv.2.1 kv.2.2) (by simp at hi; omega) hd2 (fun y hy => ?_) ?_ ?_ (fun j kv' hj => ?_) ?_ fun h3 tk hd3 k3 => ?_⟩
    · rcases qQ hy with e | ⟨z, hz, e⟩
      · rw [e]; exact hai
      · rw [← e]; exact hki z hz
    · obtain ⟨oi, hoi, r1⟩ := hit1
      exact ⟨oi, (sb2.2 it (Ne.symm hdi)).trans hoi, r1⟩
    · obtain ⟨ol, hol, r1⟩ := hl
      exact ⟨ol, keep l ol (Ne.symm hdl) (Ne.symm hil) hol, r1⟩
    · obtain ⟨q1, q2, q3, t', h1', h2', h3', ⟨o', ho', r'⟩⟩ := hp (j + 1) kv' (by simpa using hj)
      refine ⟨q1, q2, q3.there fun o q => keep _ o q2 q1 q, t', ?_, h2', h3', ⟨o', keep t' o' h2' h3' ho', r'⟩⟩
      rw [← h1']
      congr 1
      omega
    · have := vv kvs kv.1 kv.2.1 kv.2.2
      simp at hz
      omega
    · exact hR h3 tk hd3 fun c o h4 h5 q => k3 c o h4 h5 (keep c o h4 h5 q)
theorem kw {E : Value → Shared → Prop} {s : Shared} (hh : A.handled = none) (hu : A.units + 2 < cLine) {l : Addr} {o : Obj} {items : Array Value} {n : Nat} {Q : Value → Shared → Prop} (ho : s.heap.get? l = some o) (hc : o.cls = .type "list") (hdat : o.data = .seq items n) (hnd : o.dict = none) {more : List (List K × Addr × Value)} (hlen : more.length = items.size)
    (hp : ∀ (j : Nat) kv, more[j]? = some kv → IsTupleKey knd s.heap kv.1 kv.2.1 ∧ ∃ t, items[j]? = some (.ref t) ∧ PyProof.Rows.IsTup s.heap t #[.ref kv.2.1, kv.2.2]) (hz : more.length ≤ sizeLine)
    (h : ∀ h' tk, h'.DictOfH (tupleKind knd) s.heap.objs.size (zx [] more) → (∀ c o, s.heap.get? c = some o → h'.get? c = some o) → Q (.ref s.heap.objs.size) { s with heap := h', toks := tk }) :
    wpAny (model prog w) A (call (.type "dict") [.ref l]) Q E s := by
  refine callType_codes (Q₁ := fun obj s₁ => obj = .ref s.heap.objs.size ∧ s₁ = { s with heap := s.heap.push { cls := .type "dict", data := .dict #[] } }) F.kt_called_dict (F.kt_typeCall_dict_1 _) F.entry_dict_init (kt_code_dict_new _ ⟨rfl, rfl⟩) ?_
  rintro obj s₁ ⟨rfl, rfl⟩
  have hnew : (s.heap.push { cls := .type "dict", data := .dict #[] }).DictOfH (tupleKind knd) s.heap.objs.size [] := ⟨_, _, _, Heap.get?_push_size _ rfl, ⟨rfl, rfl, rfl⟩, rfl, rfl, fun _ h => (nomatch h), .nil⟩
  have hty : ({ s with heap := s.heap.push { cls := .type "dict", data := .dict #[] } } : Shared).TypeIs (.ref s.heap.objs.size) "dict" := zS hnew
  refine ⟨hty, F.args_dict_init_2 _ _, ?_⟩
  have ho1 : (s.heap.push { cls := .type "dict", data := .dict #[] }).get? l = some o := Heap.get?_push_of_some _ ho
  refine wpAny_bind ?_
  unfold Builtin.Dict.selfAndRest
  refine wpAny_bind (wpAny_notOrdered_dict hty ?_)
  refine wpAny_pure ?_
  show wpAny _ _ (Builtin.Dict.updateFrom "dict.__init__" s.heap.objs.size (.ref l) [] .none) _ _ _
  unfold Builtin.Dict.updateFrom
  refine wpAny_bind (wpAny_typeOf (T := "list") ⟨o, ho1, hc⟩ ?_)
  rw [if_pos (by decide)]
  refine wpAny_bind (qN (A := A.in1.in1) ho1 hc hdat hnd hh fun h1 tk k1 => ?_)
  rw [if_pos (by rfl)]
  refine wpAny_bind (wpAny_rule ?_)
  have ho2 : h1.get? l = some o := k1 _ _ ho1
  refine wpAny_bind (wpAny_pyIter_list (items := items) ⟨o, ho2, hc, n, hdat⟩ ?_)
  have hlt : s.heap.objs.size < h1.objs.size := Heap.lt_size (k1 _ _ (Heap.get?_push_size s.heap (o := { cls := .type "dict", data := .dict #[] }) rfl))
  have hl0 : l < s.heap.objs.size := Heap.lt_size ho
  obtain ⟨od, es, ep, hod, rd⟩ := hnew
  have kk : ∀ c u, s.heap.get? c = some u → (h1.push { cls := .type "list_iterator", data := .fields #[.ref l, .int 0 0] }).get? c = some u := fun c u q => Heap.get?_push_of_some _ (k1 _ _ (Heap.get?_push_of_some _ q))
  refine wpAny_pure ⟨plainId_quiet yl _, ku (knd := knd) (A := A.in1) (d := s.heap.objs.size) (it := h1.objs.size) (l := l) (items := items) hh hu (Nat.ne_of_lt hlt) (Nat.ne_of_gt hl0) (Nat.ne_of_gt (Nat.lt_trans hl0 hlt)) more 0 _ [] (by rw [hlen]; omega) ?_ (fun _ h => (nomatch h)) ?_ ?_ (fun j kv hj => ?_) (by simpa using hz) fun h' tk' hd' k' => ⟨rfl, ?_⟩⟩
  · exact ⟨od, es, ep, Heap.get?_push_of_some _ (k1 _ _ hod), rd.1, rd.2.1, rd.2.2.1, fun _ h => (nomatch h), .nil⟩
  · exact ⟨_, Heap.get?_push_size _ rfl, rfl, rfl⟩
  · exact ⟨o, Heap.get?_push_of_some _ ho2, hc, n, hdat⟩
  · obtain ⟨hk, t, e1, ⟨ot, e2, r2⟩⟩ := hp j kv hj
    have ht : t < s.heap.objs.size := Heap.lt_size e2
    have ha : kv.2.1 < s.heap.objs.size := let ⟨_, _, _, q, _⟩ := hk; Heap.lt_size q
    exact ⟨Nat.ne_of_lt (Nat.lt_trans ha hlt), Nat.ne_of_lt ha, hk.there fun o q => kk _ _ q, t, by simpa using e1, Nat.ne_of_lt ht, Nat.ne_of_lt (Nat.lt_trans ht hlt), ⟨ot, kk _ _ e2, r2⟩⟩
  · exact h h' tk' hd' fun c u q => k' c u (Nat.ne_of_lt (Heap.lt_size q)) (Nat.ne_of_lt (Nat.lt_trans (Heap.lt_size q) hlt)) (kk c u q)
end
end PySem
namespace L2
open PySem PySem.Spec PyProof.Rows
noncomputable abbrev Key := Sum Int Str
noncomputable def va : Key → Value → Bool
  | .inl k, v => Value.isInt k v
  | .inr x, v => Value.isStrOf x v
noncomputable def Qt (w : World) : Key → Int
  | .inl k => hashInt k
  | .inr x => hashStr w x
theorem zL : ∀ {k : Key} {v : Value}, va k v = true → (∃ i t, k = Sum.inl i ∧ v = Value.int i t) ∨ (∃ x t, k = Sum.inr x ∧ v = Value.str x t)
  | .inl i, v, h => by
    obtain ⟨t, e⟩ := Value.isInt_shape (k := i) (v := v) h
    exact .inl ⟨i, t, rfl, e⟩
  | .inr x, v, h => by
    obtain ⟨t, e⟩ := Value.isStrOf_shape (x := x) (v := v) h
    exact .inr ⟨x, t, rfl, e⟩
theorem ky (i : Int) (t : Tok) : va (.inl i) (.int i t) = true := by simp [va, Value.isInt]
theorem kz (x : Str) (t : Tok) : va (.inr x) (.str x t) = true := by simp [va, Value.isStrOf]
theorem Vj (a b : Int) : decide ((Sum.inl a : Key) = Sum.inl b) = (a == b) := by
  by_cases e : a = b
  · subst e; simp
  · have h : ¬ (Sum.inl a : Key) = Sum.inl b := fun q => e (Sum.inl.inj q)
    rw [decide_eq_false h]
    exact (beq_eq_false_iff_ne.mpr e).symm
theorem Vk (a b : Str) : decide ((Sum.inr a : Key) = Sum.inr b) = decide (a = b) := by
  by_cases e : a = b
  · subst e; simp
  · have h : ¬ (Sum.inr a : Key) = Sum.inr b := fun q => e (Sum.inr.inj q)
    rw [decide_eq_false h, decide_eq_false e]
theorem Vl (a : Int) (b : Str) : decide ((Sum.inl a : Key) = Sum.inr b) = false := decide_eq_false (fun q => nomatch q)
theorem Vm (a : Str) (b : Int) : decide ((Sum.inr a : Key) = Sum.inl b) = false := decide_eq_false (fun q => nomatch q)
noncomputable def zH (prog : Program) (w : World) : PySem.KeyKind prog w Key where
  is := va
  hash := Qt w
  inj := fun v a b ha hb => by
    rcases zL ha with ⟨i, t, rfl, rfl⟩ | ⟨x, t, rfl, rfl⟩
    · rcases zL hb with ⟨j, u, rfl, e⟩ | ⟨y, u, rfl, e⟩
      · injection e with e1 _; rw [e1]
      · exact nomatch e
    · rcases zL hb with ⟨j, u, rfl, e⟩ | ⟨y, u, rfl, e⟩
      · exact nomatch e
      · injection e with e1 _; rw [e1]
  byValue := fun k v h => by
    rcases zL h with ⟨i, t, rfl, rfl⟩ | ⟨x, t, rfl, rfl⟩ <;> rfl
  pyHash := fun hv h => by
    rcases zL hv with ⟨i, t, rfl, rfl⟩ | ⟨x, t, rfl, rfl⟩
    · exact wpAny_pyHash_int h
    · exact wpAny_pyHash_str h
  eqBool := fun hu hv h => by
    rcases zL hu with ⟨i, t, rfl, rfl⟩ | ⟨x, t, rfl, rfl⟩
    · rcases zL hv with ⟨j, u, rfl, rfl⟩ | ⟨y, u, rfl, rfl⟩
      · rw [Vj] at h; exact wpAny_eqBool_int h
      · rw [Vl] at h; exact SeqAt.EqAt.int_str i t y u _ _ _ _ h
    · rcases zL hv with ⟨j, u, rfl, rfl⟩ | ⟨y, u, rfl, rfl⟩
      · rw [Vm] at h; exact SeqAt.EqAt.str_int x t j u _ _ _ _ h
      · rw [Vk] at h; exact wpAny_eqBool_str h
  «strs» := fun k x t v h => by
    rcases zL h with ⟨i, u, rfl, e⟩ | ⟨y, u, rfl, e⟩
    · exact nomatch e
    · injection e with e1 _
      subst e1
      cases v <;> rfl
theorem qR (prog : Program) (w : World) (i : Int) (t : Tok) : (zH prog w).is (.inl i) (.int i t) = true := ky i t
theorem qS (prog : Program) (w : World) (x : Str) (t : Tok) : (zH prog w).is (.inr x) (.str x t) = true := kz x t
end L2
namespace L2
open PySem PySem.Spec PyProof.Rows
inductive V where
  | non | bl (b : Bool) | int (i : Int) | str (x : Str) | byt (b : Array UInt8) | flt (b : UInt64) | ref (a : Addr) | ty (n : String)
  deriving DecidableEq
noncomputable def RelV : V → Value → Prop
  | .non, u => u = Value.none
  | .bl b, u => u = Value.bool b
  | .int i, u => ∃ t, u = Value.int i t
  | .str x, u => ∃ t, u = Value.str x t
  | .byt b, u => ∃ t, u = Value.bytes b t
  | .flt b, u => ∃ t, u = Value.float b t
  | .ref a, u => u = Value.ref a
  | .ty n, u => u = Value.type n
noncomputable abbrev Vals : List V → List Value → Prop := Paired RelV
theorem Vals.length {xs : List V} {us : List Value} (r : Vals xs us) : xs.length = us.length := Paired.length r
theorem Vals.get : ∀ {xs : List V} {us : List Value} {i : Nat} {x : V}, Vals xs us → xs[i]? = some x → ∃ u, us[i]? = some u ∧ RelV x u
  | _, _, _, _, .nil, e => by simp at e
  | _, _, 0, _, .cons r _, e => by simp at e; subst e; exact ⟨_, rfl, r⟩
  | _, _, i + 1, x, .cons _ t, e => by
    obtain ⟨u, h1, h2⟩ := Vals.get (i := i) (x := x) t (by simpa using e)
    exact ⟨u, by simpa using h1, h2⟩
theorem Vals.set {x : V} {u : Value} (r : RelV x u) : ∀ {xs : List V} {us : List Value} (i : Nat), Vals xs us → Vals (xs.set i x) (us.set i u)
  | _, _, _, .nil => .nil
  | _, _, 0, .cons _ t => .cons r t
  | _, _, i + 1, .cons q t => .cons q (Vals.set r i t)
theorem Vals.append : ∀ {xs ys : List V} {us ws : List Value}, Vals xs us → Vals ys ws → Vals (xs ++ ys) (us ++ ws)
  | _, _, _, _, .nil, s => s
  | _, _, _, _, .cons r t, s => .cons r (Vals.append t s)
theorem Vals.take : ∀ {xs : List V} {us : List Value} (n : Nat), Vals xs us → Vals (xs.take n) (us.take n)
  | _, _, 0, _ => .nil
  | _, _, _ + 1, .nil => .nil
  | _, _, n + 1, .cons r t => .cons r (Vals.take n t)
theorem Vals.drop : ∀ {xs : List V} {us : List Value} (n : Nat), Vals xs us → Vals (xs.drop n) (us.drop n)
  | _, _, 0, r => r
  | _, _, _ + 1, .nil => .nil
  | _, _, n + 1, .cons _ t => Vals.drop n t
noncomputable def xA : Option V → Option Value → Prop
  | some v, some u => RelV v u
  | none, none => True
  | _, _ => False
noncomputable def KV {κ : Type} : List (κ × V) → List (κ × Value) → Prop := Paired fun (p : κ × V) (q : κ × Value) => p.1 = q.1 ∧ RelV p.2 q.2
noncomputable def kV : Key → V
  | .inl i => .int i
  | .inr x => .str x
inductive HO where
  | lst (xs : List V)
  | tup (xs : List V)
  | dK (kvs : List (Key × V)) | dT (kvs : List (List Key × V))
  | set (S : Int → Bool) (n : Nat)
  | ins (C dx : Addr) (fs : List (Str × V))
  | own (x : Addr)
  | xd (fs : List (Str × V))
  | met (f x : Addr)
  | rng (lo hi : Int)
  | frz (o : Obj) (u : HO)
  | tbl (ps : Array Value)
  | ext (φ : Heap → Prop)
noncomputable abbrev Hp := Addr → Option HO
noncomputable def upd (H : Hp) (a : Addr) (o : HO) : Hp := fun b => if b = a then some o else H b
theorem zh {H : Hp} {a : Addr} {o : HO} : upd H a o a = some o := by unfold upd; rw [if_pos rfl]
theorem zb {H : Hp} {a b : Addr} {o : HO} (h : b ≠ a) : upd H a o b = H b := by unfold upd; rw [if_neg h]
theorem vc {H : Hp} {a : Addr} {o u : HO} : upd (upd H a o) a u = upd H a u := by
  funext b; unfold upd; split <;> rfl
theorem U3 {H : Hp} {a b : Addr} {o u : HO} (h : H a = some o) (h' : H b = some u) (d : o ≠ u) : a ≠ b := by
  intro e; subst e; rw [h] at h'; exact d (Option.some.inj h')
theorem zy {H : Hp} {a b : Addr} {o : HO} (h : H a = some o) (h' : H b = none) : a ≠ b := by
  intro e; subst e; rw [h] at h'; cases h'
section
variable (P : Program) (w : World)
noncomputable def zB (H : Hp) (h : Heap) (a : Addr) : HO → Prop
  | .lst xs => xs.length ≤ sizeLine ∧ ∃ (its : List Value) (n : Nat), Vals xs its ∧ h.get? a = some { cls := .type "list", data := .seq its.toArray n }
  | .tup xs => xs.length ≤ sizeLine ∧ ∃ its : List Value, Vals xs its ∧ IsTup h a its.toArray
  | .dK kvs => kvs.length ≤ sizeLine ∧ (a == sysModules) = false ∧ ∃ vs, KV kvs vs ∧ h.DictOf (zH P w) a vs
  | .dT kvs => kvs.length ≤ sizeLine ∧ (a == sysModules) = false ∧ ∃ xs : List (List Key × Addr × Value),
      Paired (fun (p : List Key × V) (q : List Key × Addr × Value) => p.1 = q.1 ∧ H q.2.1 = some (.tup (p.1.map kV)) ∧ RelV p.2 q.2.2) kvs xs ∧
      ∃ o es ep, h.get? a = some o ∧ o.ExactDict ∧ o.data = .dict es ep ∧ es.toList = xs.map (entryOfKey (tupleKind (zH P w))) ∧ (xs.map (·.1)).Nodup
  | .set S n => h.SetOf (intKind P w) a S n
  | .ins C dx fs => H dx = some (.own a) ∧ fs.length ≤ 1000 ∧ dx ≠ a ∧ h.get? a = some (PySem.W.instObj C dx) ∧
      ∃ mA, h.Ns1 dx mA ∧ (∀ f, xA (fs.lookup f) (mA f)) ∧ PySem.Within mA (fs.map (·.1))
  | .own _ => ∃ o, h.get? a = some o
  | .xd fs => ∃ mA, h.Ns1 a mA ∧ ∀ f, xA (fs.lookup f) (mA f)
  | .rng lo hi => ∃ t u v, h.get? a = some { cls := .type "range", data := .fields #[.int lo t, .int hi u, .int 1 v] }
  | .frz o u => h.get? a = some o ∧ zB H h a u
  | .tbl ps => h.get? a = some { cls := .none, data := .fields ps }
  | .met f x => h.get? a = some (PySem.W.methodObj (.ref f) (.ref x))
  | .ext φ => φ h ∧ (∃ o, h.get? a = some o) ∧ ∀ h1 h2 : Heap, φ h1 → (∀ o, h1.get? a = some o → h2.get? a = some o) → φ h2
noncomputable def HOk (H : Hp) (h : Heap) : Prop := ∀ a o, H a = some o → zB P w H h a o
end
section
variable {P : Program} {w : World} {H H' : Hp} {h h' : Heap} {a : Addr} {o : HO}
theorem zB.lt (x : zB P w H h a o) : a < h.objs.size := by
  cases o with
  | lst xs => obtain ⟨_, _, _, _, e⟩ := x; exact Heap.lt_size e
  | tup xs => obtain ⟨_, _, _, p⟩ := x; exact p.lt
  | dK kvs => obtain ⟨_, _, _, _, o, _, _, e, _⟩ := x; exact Heap.lt_size e
  | dT kvs => obtain ⟨_, _, _, _, o, _, _, e, _⟩ := x; exact Heap.lt_size e
  | set S n => obtain ⟨o, _, _, _, e, _⟩ := x; exact Heap.lt_size e
  | ins C dx fs => obtain ⟨_, _, _, e, _⟩ := x; exact Heap.lt_size e
  | own y => obtain ⟨_, e⟩ := x; exact Heap.lt_size e
  | xd fs => obtain ⟨_, ⟨_, _, _, e, _⟩, _⟩ := x; exact Heap.lt_size e
  | rng lo hi => obtain ⟨_, _, _, e⟩ := x; exact Heap.lt_size e
  | frz ob u => obtain ⟨e, _⟩ := x; exact Heap.lt_size e
  | tbl ps => exact Heap.lt_size (show h.get? a = some _ from x)
  | met f y => exact Heap.lt_size (show h.get? a = some _ from x)
  | ext φ => obtain ⟨_, ⟨_, e⟩, _⟩ := x; exact Heap.lt_size e
theorem Paired.mapP {α β : Type} {F G : α → β → Prop} : ∀ {l₁ : List α} {l₂ : List β}, Paired F l₁ l₂ → (∀ a b, F a b → G a b) → Paired G l₁ l₂
  | _, _, .nil, _ => .nil
  | _, _, .cons r t, f => .cons (f _ _ r) (Paired.mapP t f)
theorem Paired.imp' {α β : Type} {F G : α → β → Prop} (f : ∀ a b, F a b → G a b) {l₁ : List α} {l₂ : List β} (r : Paired F l₁ l₂) : Paired G l₁ l₂ := Paired.mapP r f
theorem zB.stay (x : zB P w H h a o) (k : ∀ b u, (b = a ∨ H b = some (.own a)) → h.get? b = some u → h'.get? b = some u)
    (ho : ∀ b, H b = some (.own a) → H' b = some (.own a)) (ht : ∀ b xs, H b = some (.tup xs) → H' b = some (.tup xs)) : zB P w H' h' a o := by
  induction o with
  | lst xs => obtain ⟨z, its, n, r, e⟩ := x; exact ⟨z, its, n, r, k _ _ (.inl rfl) e⟩
  | tup xs => obtain ⟨z, its, r, ob, e, c⟩ := x; exact ⟨z, its, r, ob, k _ _ (.inl rfl) e, c⟩
  | dK kvs => obtain ⟨z, y, vs, r, ob, es, ep, e, c⟩ := x; exact ⟨z, y, vs, r, ob, es, ep, k _ _ (.inl rfl) e, c⟩
  | dT kvs =>
    obtain ⟨z, y, xs, r, ob, es, ep, e, c⟩ := x
    exact ⟨z, y, xs, Paired.mapP r fun p q z => ⟨z.1, ht _ _ z.2.1, z.2.2⟩, ob, es, ep, k _ _ (.inl rfl) e, c⟩
  | set S n => obtain ⟨ob, es, ep, t, e, c⟩ := x; exact ⟨ob, es, ep, t, k _ _ (.inl rfl) e, c⟩
  | ins C dx fs =>
    obtain ⟨d, z, ne, e, mA, ⟨od, es, ep, e2, c⟩, r⟩ := x
    exact ⟨ho _ d, z, ne, k _ _ (.inl rfl) e, mA, ⟨od, es, ep, k _ _ (.inr d) e2, c⟩, r⟩
  | own y => obtain ⟨ob, e⟩ := x; exact ⟨ob, k _ _ (.inl rfl) e⟩
  | xd fs => obtain ⟨mA, ⟨od, es, ep, e, c⟩, r⟩ := x; exact ⟨mA, ⟨od, es, ep, k _ _ (.inl rfl) e, c⟩, r⟩
  | rng lo hi => obtain ⟨t, u, v, e⟩ := x; exact ⟨t, u, v, k _ _ (.inl rfl) e⟩
  | frz ob u ih => obtain ⟨e, q⟩ := x; exact ⟨k _ _ (.inl rfl) e, ih q⟩
  | tbl ps =>
    have e : h.get? a = some { cls := .none, data := .fields ps } := x
    show h'.get? a = some { cls := .none, data := .fields ps }
    exact k a _ (.inl rfl) e
  | met f y =>
    have e : h.get? a = some (PySem.W.methodObj (.ref f) (.ref y)) := x
    show h'.get? a = some (PySem.W.methodObj (.ref f) (.ref y))
    exact k a _ (.inl rfl) e
  | ext φ => obtain ⟨p, ⟨o, e⟩, st⟩ := x; exact ⟨st _ _ p fun o q => k _ _ (.inl rfl) q, ⟨o, k _ _ (.inl rfl) e⟩, st⟩
theorem HOk.lt (x : HOk P w H h) (e : H a = some o) : a < h.objs.size := (x a o e).lt
theorem HOk.fresh (x : HOk P w H h) (e : h.objs.size ≤ a) : H a = none := by
  cases q : H a with
  | none => rfl
  | some u => exact absurd (Nat.lt_of_lt_of_le (x.lt q) e) (Nat.lt_irrefl _)
theorem HOk.kept (x : HOk P w H h) (k : ∀ b u, h.get? b = some u → h'.get? b = some u) : HOk P w H h' := fun a o e =>
  (x a o e).stay (fun b u _ q => k b u q) (fun _ q => q) fun _ _ q => q
theorem HOk.laid (x : HOk P w H h) (k : ∀ b u, h.get? b = some u → h'.get? b = some u) (hp : h.objs.size ≤ a) (new : zB P w (upd H a o) h' a o) : HOk P w (upd H a o) h' := fun b u e => by
  have hn := x.fresh hp
  by_cases hb : b = a
  · subst hb; rw [zh] at e; cases e; exact new
  · rw [zb hb] at e
    exact (x b u e).stay (fun c v _ q => k c v q) (fun c q => by rw [zb (zy q hn)]; exact q) fun c xs q => by rw [zb (zy q hn)]; exact q
end
noncomputable def Rd (H : Hp) (a : Addr) (u : HO) : Prop := H a = some u ∨ ∃ o, H a = some (.frz o u)
theorem Rd.of {H : Hp} {a : Addr} {u : HO} (h : H a = some u) : Rd H a u := .inl h
theorem Rd.ok {P : Program} {w : World} {H : Hp} {h : Heap} {a : Addr} {u : HO} (r : Rd H a u) (x : HOk P w H h) : zB P w H h a u := by
  rcases r with r | ⟨o, r⟩
  · exact x a u r
  · obtain ⟨_, q⟩ := x a _ r
    exact q
noncomputable def Mut : Option HO → Prop
  | some (.lst _) => True
  | some (.dK _) => True
  | some (.dT _) => True
  | some (.set _ _) => True
  | some (.ins _ _ _) => True
  | some (.ext _) => True
  | _ => False
section
variable {P : Program} {w : World} {H : Hp} {h h' : Heap} {x e : Addr} {o' : HO}
theorem HOk.write (ok : HOk P w H h) (mu : Mut (H x)) (he : e = x ∨ H e = some (.own x)) (k : ∀ b u, b ≠ e → h.get? b = some u → h'.get? b = some u) (heo : ∃ u, h'.get? e = some u)
    (new : zB P w (upd H x o') h' x o') : HOk P w (upd H x o') h' := fun b u q => by
  have nown : ∀ c y, H c = some (.own y) → c ≠ x := fun c y r z => by subst z; rw [r] at mu; exact mu
  have ntup : ∀ c xs, H c = some (.tup xs) → c ≠ x := fun c xs r z => by subst z; rw [r] at mu; exact mu
  by_cases hb : b = x
  · subst hb; rw [zh] at q; cases q; exact new
  · rw [zb hb] at q
    by_cases hbe : b = e
    · have q' : H b = some (.own x) := by
        rcases he with z | z
        · exact absurd (hbe.trans z) hb
        · rw [hbe]; exact z
      rw [q] at q'; cases q'
      obtain ⟨v, hv⟩ := heo
      exact ⟨v, by rw [hbe]; exact hv⟩
    · refine (ok b u q).stay (fun c v hc r => k c v ?_ r) (fun c r => by rw [zb (nown c b r)]; exact r) fun c xs r => by rw [zb (ntup c xs r)]; exact r
      rcases hc with rfl | hc
      · exact hbe
      · rintro rfl
        rcases he with z | z
        · exact nown c b hc z
        · rw [hc] at z; cases z; exact hb rfl
end
structure Un (fs ex : List Addr) (H H' : Hp) (h h' : Heap) : Prop where
  keep : ∀ b o, h.get? b = some o → H b = none → b ∉ fs → b ∉ ex → h'.get? b = some o
  slot : ∀ b o, h.get? b = some o → H b = none → b ∈ fs → b ∉ ex → ∃ sl, h'.get? b = some { o with slots := sl }
  free : ∀ b o, h.get? b = some o → H b = none → b ∉ ex → H' b = none
  there : ∀ b o, h.get? b = some o → b ∉ ex → ∃ o', h'.get? b = some o'
  tups : ∀ b xs, H b = some (.tup xs) → H' b = some (.tup xs)
  frzs : ∀ b o u, H b = some (.frz o u) → H' b = some (.frz o u)
  tbls : ∀ b ps, H b = some (.tbl ps) → ∃ more, H' b = some (.tbl (ps ++ more))
section
variable {fs fs' ex ex' : List Addr} {H H1 H2 : Hp} {h h1 h2 h' : Heap} {a x e : Addr} {o : HO}
theorem Un.any (u : Un fs ex H H1 h h1) {b : Addr} {ob : Obj} (q : h.get? b = some ob) (n : H b = none) (hx : b ∉ ex) : ∃ sl, h1.get? b = some { ob with slots := sl } := by
  by_cases hb : b ∈ fs
  · exact u.slot b ob q n hb hx
  · exact ⟨ob.slots, u.keep b ob q n hb hx⟩
theorem Un.trans (a : Un fs ex H H1 h h1) (b : Un fs ex H1 H2 h1 h2) : Un fs ex H H2 h h2 where
  keep := fun c ob q n hc hx => b.keep c ob (a.keep c ob q n hc hx) (a.free c ob q n hx) hc hx
  slot := fun c ob q n hc hx => by
    obtain ⟨sl, e1⟩ := a.slot c ob q n hc hx
    obtain ⟨sl', e2⟩ := b.slot c _ e1 (a.free c ob q n hx) hc hx
    exact ⟨sl', e2⟩
  free := fun c ob q n hx => by
    obtain ⟨o', e1⟩ := a.there c ob q hx
    exact b.free c o' e1 (a.free c ob q n hx) hx
  there := fun c ob q hx => by
    obtain ⟨o', e1⟩ := a.there c ob q hx
    exact b.there c o' e1 hx
  tups := fun c xs q => b.tups c xs (a.tups c xs q)
  frzs := fun c ob xs q => b.frzs c ob xs (a.frzs c ob xs q)
  tbls := fun c ps q => by
    obtain ⟨m1, e1⟩ := a.tbls c ps q
    obtain ⟨m2, e2⟩ := b.tbls c _ e1
    exact ⟨m1 ++ m2, by rw [e2, Array.append_assoc]⟩
theorem Un.kept (k : ∀ b u, h.get? b = some u → h'.get? b = some u) : Un fs ex H H h h' :=
  ⟨fun b ob q _ _ _ => k b ob q, fun b ob q _ _ _ => ⟨ob.slots, k b ob q⟩, fun _ _ _ n _ => n, fun b ob q _ => ⟨ob, k b ob q⟩, fun _ _ q => q, fun _ _ _ q => q, fun _ ps q => ⟨#[], by rw [q]; simp⟩⟩
theorem Un.refl : Un fs ex H H h h := Un.kept fun _ _ q => q
theorem Un.laid (k : ∀ b u, h.get? b = some u → h'.get? b = some u) (hp : h.objs.size ≤ a) (hn : H a = none) : Un fs ex H (upd H a o) h h' where
  keep := fun b u q _ _ _ => k b u q
  slot := fun b u q _ _ _ => ⟨u.slots, k b u q⟩
  free := fun b u q n _ => by rw [zb (Nat.ne_of_lt (Nat.lt_of_lt_of_le (Heap.lt_size q) hp))]; exact n
  there := fun b u q _ => ⟨u, k b u q⟩
  tups := fun b xs q => by rw [zb (zy q hn)]; exact q
  frzs := fun b u xs q => by rw [zb (zy q hn)]; exact q
  tbls := fun b ps q => ⟨#[], by rw [zb (zy q hn), q]; simp⟩
theorem Un.write (mu : Mut (H x)) (he : e = x ∨ H e = some (.own x)) (k : ∀ b u, b ≠ e → h.get? b = some u → h'.get? b = some u) (heo : ∃ u, h'.get? e = some u) : Un fs ex H (upd H x o) h h' := by
  have hx : ∀ b, H b = none → b ≠ x := fun b n z => by subst z; rw [n] at mu; exact mu
  have hb : ∀ b, H b = none → b ≠ e := fun b n z => by
    subst z
    rcases he with r | r
    · exact hx b n r
    · rw [n] at r; cases r
  have hm : ∀ b u, H b = some u → ¬ Mut (some u) → b ≠ x := fun b u q nm z => by subst z; rw [q] at mu; exact nm mu
  refine ⟨fun b u q n _ _ => k b u (hb b n) q, fun b u q n _ _ => ⟨u.slots, k b u (hb b n) q⟩, fun b u q n _ => by rw [zb (hx b n)]; exact n, fun b u q _ => ?_,
    fun b xs q => by rw [zb (hm b _ q fun z => z)]; exact q, fun b u xs q => by rw [zb (hm b _ q fun z => z)]; exact q, fun b ps q => ⟨#[], by rw [zb (hm b _ q fun z => z), q]; simp⟩⟩
  by_cases hbe : b = e
  · subst hbe; exact heo
  · exact ⟨u, k b u hbe q⟩
theorem Un.mono (u : Un fs ex H H1 h h1) (hs : ∀ b ∈ fs, b ∈ fs') (hx : ∀ b ∈ ex, b ∈ ex') : Un fs' ex' H H1 h h1 :=
  ⟨fun b ob q n hb he => u.keep b ob q n (fun z => hb (hs b z)) fun z => he (hx b z), fun _ _ q n _ he => u.any q n fun z => he (hx _ z), fun b ob q n he => u.free b ob q n fun z => he (hx b z), fun b ob q he => u.there b ob q fun z => he (hx b z), u.tups, u.frzs, u.tbls⟩
end
noncomputable def trk (h : Heap) (H : Hp) : List Addr := (List.range h.objs.size).filter fun a => (H a).isSome
noncomputable def xB (h : Heap) (H : Hp) : Heap := PySem.W.hideAll h (trk h H)
theorem kA (h : Heap) (H : Hp) : (xB h H).objs.size = h.objs.size := PySem.W.hideAll_size _ _
theorem Zy {h : Heap} {H : Hp} {b : Addr} {o : Obj} (e : h.get? b = some o) (n : H b = none) : (xB h H).get? b = some o :=
  PySem.W.hideAll_get _ e fun hm => by
    have q : (H b).isSome = true := (List.mem_filter.mp hm).2
    rw [n] at q; simp at q
theorem Xm {h : Heap} {H : Hp} {b : Addr} {o : Obj} (e : (xB h H).get? b = some o) : h.get? b = some o ∧ H b = none := by
  have e' : h.get? b = some o := PySem.W.of_hideAll (trk h H) e
  refine ⟨e', ?_⟩
  cases q : H b with
  | none => rfl
  | some x =>
    have hm : b ∈ trk h H := List.mem_filter.mpr ⟨List.mem_range.mpr (Heap.lt_size e'), by simp [q]⟩
    have z : (xB h H).get? b = none := PySem.W.hideAll_none (trk h H) hm
    rw [z] at e; cases e
noncomputable def Xn (g h : Heap) (L : Addr) : List (Addr × Obj) := (List.range h.objs.size).filterMap fun a => if a = L ∨ (g.get? a).isSome = true then none else (h.get? a).map fun o => (a, o)
noncomputable def zE (g h : Heap) (L d : Addr) : List (Addr × Obj) := (Xn g h L).filter fun p => decide (p.1 ≠ d)
end L2
namespace L2
open PySem PySem.Spec PyProof.Rows
structure Mod (K : PySem.W.Frag) (mg : Str → Option Value) (base : Heap) : Prop where
  kin : K.In base
  glob : base.Ns mainGlobals mg
  blt : ∃ mb, base.Ns builtinsNs mb ∧ ∀ x : Str, x ≠ "__name__" → mb x = bootBuiltins x
  nolimit : base.NoLimit
structure Cx where
  prog : Program
  w : World
  K : PySem.W.Frag
  mg : Str → Option Value
  base : Heap
  A : Around
  N : List Str
  s₀ : Shared
  H₀ : Hp
  env : Env
  outer : List Env
  stack : List Env
  ex : List Addr
  fn : Str → Bool
  calm : Bool
  pn : List (Addr × Obj)
  xe : Value → Shared → Prop
noncomputable def frs (l : List Env) : List Addr := l.filterMap (·.frame)
noncomputable abbrev Cx.fs (X : Cx) : List Addr := frs X.outer
noncomputable def Vis (sc : Scope) (x : Str) : Prop := sc.names.lookup x = some .local ∨ sc.names.lookup x = some .cell ∨ sc.names.lookup x = some .free
noncomputable def Loc (sc : Scope) (x : Str) : Prop := sc.names.lookup x = some .local ∨ sc.names.lookup x = some .cell
noncomputable def Look (env : Env) (h : Heap) (m : Str → Option Value) (x : Str) (u : Value) : Prop :=
  (env.kindOf x = some .local ∧ m x = some u) ∨ ((env.kindOf x = some .cell ∨ env.kindOf x = some .free) ∧ ∃ c, env.cells.lookup x = some c ∧ h.IsCell c (some u))
structure Cx.Ok (X : Cx) : Prop where
  mod : Mod X.K X.mg X.base
  kind : X.env.scope.kind = .function
  glob : X.env.globals = mainGlobals
  blt : X.env.builtins = builtinsNs
  above : X.s₀.heap.objs.size ≤ X.env.locals
  inj : ∀ x y c, X.env.cells.lookup x = some c → X.env.cells.lookup y = some c → x = y
  has : ∀ x, (X.env.kindOf x = some .cell ∨ X.env.kindOf x = some .free) → ∃ c, X.env.cells.lookup x = some c
  cab : ∀ x c, X.fn x = true → X.env.cells.lookup x = some c → X.s₀.heap.objs.size ≤ c
  hd : X.calm = true → X.A.handled = none
  frames : X.A.frames = some X.stack
  stk : X.stack = X.outer ∨ (X.stack = X.env :: X.outer ∧ X.env.frame = some X.env.locals)
  exf : ∀ b ∈ X.ex, b ≠ X.env.locals ∧ ∀ x c, X.env.cells.lookup x = some c → c ≠ b
  bs : ∀ b o, X.base.get? b = some o → X.s₀.heap.get? b = some o ∧ X.H₀ b = none
  bsz : X.base.objs.size ≤ X.s₀.heap.objs.size
  noex : ∀ b o, X.base.get? b = some o → b ∉ X.ex
  exfs : ∀ b ∈ X.ex, b ∉ X.fs
  funs : X.s₀.heap.FunFrames X.base X.outer
  frf : ∀ b ∈ X.fs, X.H₀ b = none
structure Inv (X : Cx) (pins : List (Addr × Obj)) (σ : List (Option V)) (H : Hp) (s : Shared) : Prop where
  ok : X.Ok
  os : s.os = X.s₀.os
  bare : AllBare s.gens
  base : Un X.fs X.ex X.H₀ H X.s₀.heap s.heap
  loc : ∃ m, s.heap.Ns X.env.locals m ∧ ∀ (i : Nat) (x : Str) (v : V), X.N[i]? = some x → σ[i]? = some (some v) → Vis X.env.scope x → ∃ u, RelV v u ∧ Look X.env s.heap m x u
  cell : ∀ x c, X.env.cells.lookup x = some c → ∃ v, s.heap.IsCell c v
  free : H X.env.locals = none
  freeC : ∀ x c, X.env.cells.lookup x = some c → H c = none
  pin : ∀ p ∈ X.pn ++ pins, s.heap.get? p.1 = some p.2 ∧ H p.1 = none ∧ p.1 ≠ X.env.locals ∧ p.1 ∉ X.fs ∧ ∀ v, p.2.data ≠ .cell v
  hok : HOk X.prog X.w H s.heap
  len : σ.length = X.N.length
section
variable {X : Cx} {pins : List (Addr × Obj)} {σ : List (Option V)} {H H' : Hp} {s : Shared} {h' : Heap}
theorem Cx.Ok.nofr (ok : X.Ok) {b : Addr} {o : Obj} (e : X.base.get? b = some o) : b ∉ X.fs := fun hb => by
  have := (ok.funs.mem hb).1
  rw [e] at this; cases this
theorem Inv.bs (I : Inv X pins σ H s) : ∀ b o, X.base.get? b = some o → s.heap.get? b = some o ∧ H b = none := fun b o e =>
  ⟨I.base.keep b o (I.ok.bs b o e).1 (I.ok.bs b o e).2 (I.ok.nofr e) (I.ok.noex b o e), I.base.free b o (I.ok.bs b o e).1 (I.ok.bs b o e).2 (I.ok.noex b o e)⟩
theorem Inv.bk (I : Inv X pins σ H s) : ∀ b o, X.base.get? b = some o → s.heap.get? b = some o := fun b o e => (I.bs b o e).1
theorem Inv.mod (I : Inv X pins σ H s) : Mod X.K X.mg X.base := I.ok.mod
theorem Inv.kIn (I : Inv X pins σ H s) : X.K.In s.heap := I.ok.mod.kin.keeps I.bk
theorem Inv.nolimit (I : Inv X pins σ H s) : s.heap.NoLimit := I.ok.mod.nolimit.keeps I.bk
theorem Inv.fr (I : Inv X pins σ H s) : ∃ m, Fr X.base X.env.locals s.heap m :=
  let ⟨m, hn, _⟩ := I.loc
  ⟨m, hn, I.bk, Nat.le_trans I.ok.bsz I.ok.above⟩
theorem Inv.lt (I : Inv X pins σ H s) : X.env.locals < s.heap.objs.size := let ⟨_, hn, _⟩ := I.loc; hn.lt
theorem Inv.sz (I : Inv X pins σ H s) : X.s₀.heap.objs.size ≤ s.heap.objs.size := Nat.le_trans I.ok.above (Nat.le_of_lt I.lt)
theorem Inv.nofs (I : Inv X pins σ H s) {a : Addr} (h : s.heap.objs.size ≤ a) : a ∉ X.fs := fun hb => by
  obtain ⟨_, o, ho, _⟩ := I.ok.funs.mem hb
  exact absurd (Nat.lt_of_lt_of_le (Heap.lt_size ho) (Nat.le_trans I.sz h)) (Nat.lt_irrefl _)
theorem Inv.cne (I : Inv X pins σ H s) : ∀ x c, X.env.cells.lookup x = some c → c ≠ X.env.locals := fun x c e z => by
  obtain ⟨v, o, ho, hd⟩ := I.cell x c e
  obtain ⟨m, ⟨o', es, ep, ho', hd', _⟩, _⟩ := I.loc
  rw [z, ho'] at ho; cases ho; rw [hd'] at hd; cases hd
theorem Inv.funs (I : Inv X pins σ H s) : s.heap.FunFrames X.base X.outer := by
  have all : ∀ (l : List Env), (∀ b ∈ frs l, b ∈ X.fs) → X.s₀.heap.FunFrames X.base l → s.heap.FunFrames X.base l := by
    intro l
    induction l with
    | nil => intro _ _; trivial
    | cons env r ih =>
      intro hs hl
      obtain ⟨hk, ⟨L, o, hf, hn, ho, hd⟩, hr⟩ := hl
      have hL : L ∈ X.fs := hs L (by unfold frs; rw [List.filterMap_cons, hf]; exact List.mem_cons_self)
      obtain ⟨sl, e⟩ := I.base.slot L o ho (I.ok.frf L hL) hL fun z => I.ok.exfs L z hL
      exact ⟨hk, ⟨L, _, hf, hn, e, hd⟩, ih (fun b hb => hs b (by unfold frs; rw [List.filterMap_cons, hf]; exact List.mem_cons_of_mem _ hb)) hr⟩
  exact all X.outer (fun _ hb => hb) I.ok.funs
theorem Inv.stack (I : Inv X pins σ H s) : s.heap.FunFrames X.base X.stack := by
  rcases I.ok.stk with e | ⟨e, hf⟩
  · rw [e]; exact I.funs
  · rw [e]
    obtain ⟨m, hn, _⟩ := I.loc
    refine .cons (by rw [I.ok.kind]; decide) hf hn ?_ I.funs
    exact Heap.get?_none_of_le (Nat.le_trans I.ok.bsz I.ok.above)
theorem Inv.stkSub (I : Inv X pins σ H s) : ∀ b ∈ frs X.stack, b ∈ X.env.locals :: X.fs := fun b hb => by
  rcases I.ok.stk with e | ⟨e, hf⟩
  · rw [e] at hb; exact List.mem_cons_of_mem _ hb
  · rw [e] at hb
    unfold frs at hb
    rw [List.filterMap_cons, hf] at hb
    exact hb
theorem Inv.stkFree (I : Inv X pins σ H s) : ∀ b ∈ frs X.stack, H b = none := fun b hb => by
  rcases List.mem_cons.mp (I.stkSub b hb) with e | hb
  · rw [e]; exact I.free
  · obtain ⟨_, o, ho, _⟩ := I.ok.funs.mem hb
    exact I.base.free b o ho (I.ok.frf b hb) fun z => I.ok.exfs b z hb
theorem Inv.step {g' : Array GenState} {t' : Nat} {d' : Drawn} {ch : List Addr} (I : Inv X pins σ H s)
    (hch : ∀ b ∈ ch, (b ∈ X.ex ∨ X.s₀.heap.objs.size ≤ b) ∧ b ≠ X.env.locals ∧ (∀ x c, X.env.cells.lookup x = some c → c ≠ b) ∧ ∀ p ∈ X.pn ++ pins, p.1 ≠ b)
    (keep : ∀ b o, b ≠ X.env.locals → b ∉ X.fs → b ∉ ch → s.heap.get? b = some o → H b = none → h'.get? b = some o)
    (slot : ∀ b o, b ≠ X.env.locals → b ∈ X.fs → b ∉ ch → s.heap.get? b = some o → H b = none → ∃ sl, h'.get? b = some { o with slots := sl }) (free : ∀ b o, b ∉ ch → s.heap.get? b = some o → H b = none → H' b = none)
    (there : ∀ b o, b ∉ ch → s.heap.get? b = some o → ∃ o', h'.get? b = some o')
    (tups : ∀ b xs, H b = some (.tup xs) → H' b = some (.tup xs)) (frzs : ∀ b o u, H b = some (.frz o u) → H' b = some (.frz o u)) (tbls : ∀ b ps, H b = some (.tbl ps) → ∃ more, H' b = some (.tbl (ps ++ more)))
    (ns : ∀ m, s.heap.Ns X.env.locals m → h'.Ns X.env.locals m) (hok : HOk X.prog X.w H' h') (hg : AllBare g') :
    Inv X pins σ H' { s with heap := h', gens := g', drawn := d', toks := t' } := by
  have neL : ∀ b o, X.s₀.heap.get? b = some o → b ≠ X.env.locals := fun b o e => Nat.ne_of_lt (Nat.lt_of_lt_of_le (Heap.lt_size e) I.ok.above)
  have neC : ∀ b o, X.s₀.heap.get? b = some o → b ∉ X.ex → b ∉ ch := fun b o e hx hb => by
    rcases (hch b hb).1 with z | z
    · exact hx z
    · exact absurd (Nat.lt_of_lt_of_le (Heap.lt_size e) z) (Nat.lt_irrefl _)
  have y7 : ∀ x c, X.env.cells.lookup x = some c → ∀ v, s.heap.IsCell c v → h'.IsCell c v := fun x c e v ⟨o, ho, hd⟩ => by
    have nch : c ∉ ch := fun z => (hch c z).2.2.1 x c e rfl
    by_cases hc : c ∈ X.fs
    · obtain ⟨sl, q⟩ := slot c o (I.cne x c e) hc nch ho (I.freeC x c e)
      exact ⟨_, q, hd⟩
    · exact ⟨o, keep c o (I.cne x c e) hc nch ho (I.freeC x c e), hd⟩
  refine ⟨I.ok, I.os, hg, ⟨fun b o e n hb hx => ?_, fun b o e n hb hx => ?_, fun b o e n hx => ?_, fun b o e hx => ?_, fun b xs e => tups b xs (I.base.tups b xs e), fun b o xs e => frzs b o xs (I.base.frzs b o xs e), fun b ps e => ?_⟩, ?_, fun x c e => ?_, ?_, fun x c e => ?_, fun p hp => ?_, hok, I.len⟩
  · exact keep b o (neL b o e) hb (neC b o e hx) (I.base.keep b o e n hb hx) (I.base.free b o e n hx)
  · obtain ⟨sl, e1⟩ := I.base.slot b o e n hb hx
    obtain ⟨sl', e2⟩ := slot b _ (neL b o e) hb (neC b o e hx) e1 (I.base.free b o e n hx)
    exact ⟨sl', e2⟩
  · obtain ⟨o', e1⟩ := I.base.there b o e hx
    exact free b o' (neC b o e hx) e1 (I.base.free b o e n hx)
  · obtain ⟨o', e1⟩ := I.base.there b o e hx
    exact there b o' (neC b o e hx) e1
  · obtain ⟨m1, e1⟩ := I.base.tbls b ps e
    obtain ⟨m2, e2⟩ := tbls b _ e1
    exact ⟨m1 ++ m2, by rw [e2, Array.append_assoc]⟩
  · obtain ⟨m, hn, hl⟩ := I.loc
    refine ⟨m, ns m hn, fun i x v e1 e2 e3 => ?_⟩
    obtain ⟨u, r, l⟩ := hl i x v e1 e2 e3
    refine ⟨u, r, ?_⟩
    rcases l with l | ⟨k, c, e, z⟩
    · exact .inl l
    · exact .inr ⟨k, c, e, y7 x c e _ z⟩
  · obtain ⟨v, z⟩ := I.cell x c e
    exact ⟨v, y7 x c e v z⟩
  · obtain ⟨m, ⟨o, _, _, ho, _⟩, _⟩ := I.loc
    exact free _ o (fun z => (hch _ z).2.1 rfl) ho I.free
  · obtain ⟨v, o, ho, hd⟩ := I.cell x c e
    exact free c o (fun z => (hch c z).2.2.1 x c e rfl) ho (I.freeC x c e)
  · obtain ⟨e, n, ne, nf, d⟩ := I.pin p hp
    have nch : p.1 ∉ ch := fun z => (hch p.1 z).2.2.2 p hp rfl
    exact ⟨keep p.1 p.2 ne nf nch e n, free p.1 p.2 nch e n, ne, nf, d⟩
theorem Inv.un {t' : Nat} (I : Inv X pins σ H s) (u : Un X.fs [] H H' s.heap h') (hok : HOk X.prog X.w H' h') : Inv X pins σ H' { s with heap := h', toks := t' } := by
  obtain ⟨m, ⟨o, es, ep, ho, r⟩, _⟩ := id I.loc
  obtain ⟨sl, hL⟩ := u.any ho I.free (by simp)
  exact I.step (g' := s.gens) (d' := s.drawn) (ch := []) (fun _ z => nomatch z) (fun b o _ hb _ e n => u.keep b o e n hb (by simp)) (fun b o _ hb _ e n => u.slot b o e n hb (by simp)) (fun b o _ e n => u.free b o e n (by simp)) (fun b o _ e => u.there b o e (by simp)) u.tups u.frzs u.tbls (fun m' hm => by
    obtain ⟨o', es', ep', ho', r'⟩ := hm
    rw [ho] at ho'; cases ho'
    exact ⟨_, es', ep', hL, r'⟩) hok I.bare
theorem Inv.call {g' : Array GenState} {t' : Nat} {d' : Drawn} {ch : List Addr} (I : Inv X pins σ H s) (u : Un (frs X.stack) ch H H' s.heap h') (hok : HOk X.prog X.w H' h') (hg : AllBare g')
    (hch : ∀ b ∈ ch, (b ∈ X.ex ∨ X.s₀.heap.objs.size ≤ b) ∧ b ≠ X.env.locals ∧ (∀ x c, X.env.cells.lookup x = some c → c ≠ b) ∧ ∀ p ∈ X.pn ++ pins, p.1 ≠ b) :
    Inv X pins σ H' { s with heap := h', gens := g', drawn := d', toks := t' } := by
  obtain ⟨m, ⟨o, es, ep, ho, r⟩, _⟩ := id I.loc
  obtain ⟨sl, hL⟩ := u.any ho I.free fun z => (hch _ z).2.1 rfl
  exact I.step (ch := ch) hch (fun b o hL hb hc e n => u.keep b o e n (fun z => (List.mem_cons.mp (I.stkSub b z)).elim hL hb) hc) (fun b o _ _ hc e n => u.any e n hc) (fun b o hc e n => u.free b o e n hc) (fun b o hc e => u.there b o e hc) u.tups u.frzs u.tbls (fun m' hm => by
    obtain ⟨o', es', ep', ho', r'⟩ := hm
    rw [ho] at ho'; cases ho'
    exact ⟨_, es', ep', hL, r'⟩) hok hg
theorem Inv.turned {t' : Nat} {it : Addr} (I : Inv X pins σ H s) (k : ∀ b o, b ≠ it → s.heap.get? b = some o → h'.get? b = some o) (hn : H it = none) (hL : it ≠ X.env.locals)
    (h1 : it ∈ X.ex ∨ X.s₀.heap.objs.size ≤ it) (h2 : ∀ x c, X.env.cells.lookup x = some c → c ≠ it) (h3 : ∀ p ∈ X.pn ++ pins, p.1 ≠ it) : Inv X pins σ H { s with heap := h', toks := t' } := by
  have nit : ∀ b u, H b = some u → b ≠ it := fun b u e z => by rw [z, hn] at e; cases e
  refine I.step (g' := s.gens) (d' := s.drawn) (ch := [it]) (fun b hb => ?_) (fun b o _ _ hc e _ => k b o (fun z => hc (by simp [z])) e) (fun b o _ _ hc e _ => ⟨o.slots, k b o (fun z => hc (by simp [z])) e⟩) (fun _ _ _ _ n => n)
    (fun b o hc e => ⟨o, k b o (fun z => hc (by simp [z])) e⟩) (fun _ _ e => e) (fun _ _ _ e => e) (fun b ps e => ⟨#[], by rw [e]; simp⟩) (fun m hm => ?_) (fun b u e => ?_) I.bare
  · have e : b = it := by simpa using hb
    subst e
    exact ⟨h1, hL, h2, h3⟩
  · obtain ⟨o, es, ep, ho, r⟩ := hm
    exact ⟨o, es, ep, k _ o (Ne.symm hL) ho, r⟩
  · refine (I.hok b u e).stay (fun c v hc q => k c v ?_ q) (fun _ q => q) fun _ _ q => q
    rcases hc with z | z
    · rw [z]; exact nit b u e
    · exact nit c _ z
theorem Inv.tok (I : Inv X pins σ H s) (t : Nat) : Inv X pins σ H { s with toks := t } := I.un (h' := s.heap) (t' := t) Un.refl I.hok
theorem Inv.kept {t' : Nat} (I : Inv X pins σ H s) (k : ∀ b u, s.heap.get? b = some u → h'.get? b = some u) : Inv X pins σ H { s with heap := h', toks := t' } := I.un (Un.kept k) (I.hok.kept k)
theorem Inv.laid {a : Addr} {o : HO} {t' : Nat} (I : Inv X pins σ H s) (k : ∀ b u, s.heap.get? b = some u → h'.get? b = some u) (hp : s.heap.objs.size ≤ a) (new : zB X.prog X.w (upd H a o) h' a o) :
    Inv X pins σ (upd H a o) { s with heap := h', toks := t' } := I.un (Un.laid k hp (I.hok.fresh hp)) (I.hok.laid k hp new)
theorem Inv.write {x e : Addr} {o : HO} {t' : Nat} (I : Inv X pins σ H s) (mu : Mut (H x)) (he : e = x ∨ H e = some (.own x)) (k : ∀ b u, b ≠ e → s.heap.get? b = some u → h'.get? b = some u) (heo : ∃ u, h'.get? e = some u)
    (new : zB X.prog X.w (upd H x o) h' x o) : Inv X pins σ (upd H x o) { s with heap := h', toks := t' } := I.un (Un.write mu he k heo) (I.hok.write mu he k heo new)
theorem Inv.weak {σ' : List (Option V)} (I : Inv X pins σ H s) (hl : σ'.length = σ.length) (w : ∀ (i : Nat) v, σ'[i]? = some (some v) → σ[i]? = some (some v)) : Inv X pins σ' H s :=
  ⟨I.ok, I.os, I.bare, I.base, let ⟨m, hn, hl'⟩ := I.loc; ⟨m, hn, fun i x v e1 e2 e3 => hl' i x v e1 (w i v e2) e3⟩, I.cell, I.free, I.freeC, I.pin, I.hok, hl.trans I.len⟩
theorem Inv.pins_of {pins' : List (Addr × Obj)} (I : Inv X pins σ H s) (h : ∀ p ∈ pins', s.heap.get? p.1 = some p.2 ∧ H p.1 = none ∧ p.1 ≠ X.env.locals ∧ p.1 ∉ X.fs ∧ ∀ v, p.2.data ≠ .cell v) : Inv X pins' σ H s :=
  ⟨I.ok, I.os, I.bare, I.base, I.loc, I.cell, I.free, I.freeC, fun p hp => (List.mem_append.mp hp).elim (fun z => I.pin p (List.mem_append_left _ z)) (h p), I.hok, I.len⟩
theorem uZ {N : List Str} (hN : N.Nodup) {i j : Nat} {x : Str} (a : N[i]? = some x) (b : N[j]? = some x) : i = j := by
  obtain ⟨h1, e1⟩ := List.getElem?_eq_some_iff.mp a
  obtain ⟨h2, e2⟩ := List.getElem?_eq_some_iff.mp b
  exact (List.getElem_inj hN).mp (e1.trans e2.symm)
theorem uz {M : Model} {A : Around} {E : Value → Shared → Prop} {i : Nat} {x : Str} {v : V} {u : Value} {Q : Unit → Shared → Prop} (I : Inv X pins σ H s) (hN : X.N.Nodup) (hi : X.N[i]? = some x) (hx : Loc X.env.scope x) (r : RelV v u)
    (h : ∀ s', Inv X pins (σ.set i (some v)) H s' → (∃ a, Heap.SameBut a s.heap s'.heap ∧ (a = X.env.locals ∨ X.env.cells.lookup x = some a)) → Q () s') (hf : X.fn x = true ∨ X.env.scope.names.lookup x = some .local := by first | exact .inl rfl | exact .inr rfl | assumption) : wpAny M A (storeName X.env x u) Q E s := by
  obtain ⟨m, hn, hl⟩ := id I.loc
  have hcls : (X.env.scope.kind == .class || (X.env.scope.kind == .module && X.env.locals != X.env.globals)) = false := by rw [I.ok.kind]; rfl
  have hiσ : i < σ.length := by rw [I.len]; exact (List.getElem?_eq_some_iff.mp hi).1
  have cne := I.cne
  have tracked : ∀ {a : Addr} {h' : Heap}, (∃ o, s.heap.get? a = some o ∧ H a = none) → Heap.SameBut a s.heap h' → HOk X.prog X.w H h' := fun {a h'} ha hs b ob e => by
    obtain ⟨_, _, hfree⟩ := ha
    refine (I.hok b ob e).stay (fun c w' hc q => (hs.2 c ?_).trans q) (fun _ q => q) fun _ _ q => q
    rintro rfl
    rcases hc with rfl | hc
    · rw [hfree] at e; cases e
    · rw [hfree] at hc; cases hc
  rcases hx with hk | hk
  · refine wpAny_storeName_local hk hn (fun h' hn' hs => ?_) hcls
    obtain ⟨oL, _, _, hoL, _⟩ := id hn
    refine h _ ⟨I.ok, I.os, I.bare, ⟨fun b o e n hb hx => ?_, fun b o e n hb hx => ?_, I.base.free, fun b o e hx => ?_, I.base.tups, I.base.frzs, I.base.tbls⟩, ⟨_, hn', fun j y v' e1 e2 e3 => ?_⟩, fun y c e => ?_, I.free, I.freeC, fun p hp => ?_, tracked ⟨oL, hoL, I.free⟩ hs, by simpa using I.len⟩ ⟨_, hs, .inl rfl⟩
    · exact (hs.2 b (Nat.ne_of_lt (Nat.lt_of_lt_of_le (Heap.lt_size e) I.ok.above))).trans (I.base.keep b o e n hb hx)
    · obtain ⟨sl, e1⟩ := I.base.slot b o e n hb hx
      exact ⟨sl, (hs.2 b (Nat.ne_of_lt (Nat.lt_of_lt_of_le (Heap.lt_size e) I.ok.above))).trans e1⟩
    · obtain ⟨o', e1⟩ := I.base.there b o e hx
      exact ⟨o', (hs.2 b (Nat.ne_of_lt (Nat.lt_of_lt_of_le (Heap.lt_size e) I.ok.above))).trans e1⟩
    · by_cases hj : j = i
      · subst hj
        rw [hi] at e1; cases e1
        rw [List.getElem?_set_self hiσ] at e2
        cases e2
        exact ⟨u, r, .inl ⟨hk, by simp⟩⟩
      · rw [List.getElem?_set_ne (Ne.symm hj)] at e2
        obtain ⟨u', r', q⟩ := hl j y v' e1 e2 e3
        refine ⟨u', r', ?_⟩
        rcases q with ⟨k, e⟩ | ⟨k, c, e, z⟩
        · refine .inl ⟨k, ?_⟩
          have : y ≠ x := fun e => hj (uZ hN e1 (e ▸ hi))
          simp [this, e]
        · exact .inr ⟨k, c, e, z.sameBut hs (cne y c e)⟩
    · obtain ⟨w', z⟩ := I.cell y c e
      exact ⟨w', z.sameBut hs (cne y c e)⟩
    · obtain ⟨e, n, ne, nf, d⟩ := I.pin p hp
      exact ⟨(hs.2 p.1 ne).trans e, n, ne, nf, d⟩
  · have hfn : X.fn x = true := by
      rcases hf with z | z
      · exact z
      · rw [z] at hk; cases hk
    obtain ⟨c, hc⟩ := I.ok.has x (.inl hk)
    obtain ⟨w', z⟩ := I.cell x c hc
    refine wpAny_storeName_cell I.ok.kind hk hc z (fun h' hc' hs => ?_)
    obtain ⟨oc, hoc, hocd⟩ := id z
    refine h { s with heap := h' } ⟨I.ok, I.os, I.bare, ⟨fun b o e n hb hx => ?_, fun b o e n hb hx => ?_, I.base.free, fun b o e hx => ?_, I.base.tups, I.base.frzs, I.base.tbls⟩, ⟨m, hn.sameBut hs (Ne.symm (cne x c hc)), fun j y v' e1 e2 e3 => ?_⟩, fun y c' e => ?_, I.free, I.freeC, fun p hp => ?_, tracked ⟨oc, hoc, I.freeC x c hc⟩ hs, by simpa using I.len⟩ ⟨c, hs, .inr hc⟩
    · exact (hs.2 b (Nat.ne_of_lt (Nat.lt_of_lt_of_le (Heap.lt_size e) (I.ok.cab x c hfn hc)))).trans (I.base.keep b o e n hb hx)
    · obtain ⟨sl, e1⟩ := I.base.slot b o e n hb hx
      exact ⟨sl, (hs.2 b (Nat.ne_of_lt (Nat.lt_of_lt_of_le (Heap.lt_size e) (I.ok.cab x c hfn hc)))).trans e1⟩
    · obtain ⟨o', e1⟩ := I.base.there b o e hx
      exact ⟨o', (hs.2 b (Nat.ne_of_lt (Nat.lt_of_lt_of_le (Heap.lt_size e) (I.ok.cab x c hfn hc)))).trans e1⟩
    · by_cases hj : j = i
      · subst hj
        rw [hi] at e1; cases e1
        rw [List.getElem?_set_self hiσ] at e2
        cases e2
        exact ⟨u, r, .inr ⟨.inl hk, c, hc, hc'⟩⟩
      · rw [List.getElem?_set_ne (Ne.symm hj)] at e2
        obtain ⟨u', r', q⟩ := hl j y v' e1 e2 e3
        refine ⟨u', r', ?_⟩
        rcases q with q | ⟨k, c', e, z'⟩
        · exact .inl q
        · refine .inr ⟨k, c', e, z'.sameBut hs ?_⟩
          rintro rfl
          exact hj (uZ hN e1 (I.ok.inj _ _ _ e hc ▸ hi))
    · by_cases hcc : c' = c
      · subst hcc; exact ⟨_, hc'⟩
      · obtain ⟨w2, z2⟩ := I.cell y c' e
        exact ⟨w2, z2.sameBut hs hcc⟩
    · obtain ⟨e, n, ne, nf, d⟩ := I.pin p hp
      refine ⟨(hs.2 p.1 ?_).trans e, n, ne, nf, d⟩
      intro q
      rw [q, hoc] at e
      have q' : oc = p.2 := Option.some.inj e
      exact d w' (by rw [← q']; exact hocd)
theorem u3 {M : Model} {A : Around} {E : Value → Shared → Prop} {i : Nat} {x : Str} {v : V} {u : Value} {Q : Unit → Shared → Prop} (I : Inv X pins σ H s) (hN : X.N.Nodup) (hi : X.N[i]? = some x) (hx : Loc X.env.scope x) (r : RelV v u)
    (h : ∀ s', Inv X pins (σ.set i (some v)) H s' → Q () s') (hf : X.fn x = true ∨ X.env.scope.names.lookup x = some .local := by first | exact .inl rfl | exact .inr rfl | assumption) : wpAny M A (storeName X.env x u) Q E s :=
  uz I hN hi hx r (fun s' I' _ => h s' I') hf
theorem Inv.call' {s' : Shared} {ch : List Addr} (I : Inv X pins σ H s) (ho : s'.os = s.os) (u : Un (frs X.stack) ch H H' s.heap s'.heap) (hok : HOk X.prog X.w H' s'.heap) (hg : AllBare s'.gens)
    (hch : ∀ b ∈ ch, (b ∈ X.ex ∨ X.s₀.heap.objs.size ≤ b) ∧ b ≠ X.env.locals ∧ (∀ x c, X.env.cells.lookup x = some c → c ≠ b) ∧ ∀ p ∈ X.pn ++ pins, p.1 ≠ b) : Inv X pins σ H' s' := by
  obtain ⟨h', g', d', t', o'⟩ := s'
  have e : o' = s.os := ho
  subst e
  exact I.call (g' := g') (t' := t') (d' := d') u hok hg hch
end
noncomputable abbrev XK := Value → Option Addr → Hp → Prop
noncomputable abbrev St := List (Option V)
noncomputable abbrev VK := V → Hp → Prop
noncomputable abbrev TE := St → Hp → VK → Prop
noncomputable abbrev TT := St → Hp → (Bool → Hp → Prop) → Prop
noncomputable abbrev TA := St → Hp → (List V → Hp → Prop) → Prop
structure Ends where
  nx : St → Hp → Prop
  rt : VK
  bk : St → Hp → Prop := fun _ _ => False
  ct : St → Hp → Prop := fun _ _ => False
noncomputable abbrev TS := Ends → St → Hp → Prop
noncomputable def EP (X : Cx) (pins : List (Addr × Obj)) (σ : St) (Q : VK) (u : Value) (s' : Shared) : Prop := ∃ v H', Inv X pins σ H' s' ∧ RelV v u ∧ Q v H'
noncomputable def TP (X : Cx) (pins : List (Addr × Obj)) (σ : St) (Q : Bool → Hp → Prop) (b : Bool) (s' : Shared) : Prop := ∃ H', Inv X pins σ H' s' ∧ Q b H'
noncomputable def AP (X : Cx) (pins : List (Addr × Obj)) (σ : St) (Q : List V → Hp → Prop) (us : List Value) (s' : Shared) : Prop := ∃ vs H', Inv X pins σ H' s' ∧ Vals vs us ∧ Q vs H'
noncomputable def SP (X : Cx) (pins : List (Addr × Obj)) (D : Ends) (f : Flow) (s' : Shared) : Prop :=
  match f with
  | .next => ∃ σ' H', Inv X pins σ' H' s' ∧ D.nx σ' H'
  | .brk => ∃ σ' H', Inv X pins σ' H' s' ∧ D.bk σ' H'
  | .cont => ∃ σ' H', Inv X pins σ' H' s' ∧ D.ct σ' H'
  | .ret u => ∃ v σ' H', Inv X pins σ' H' s' ∧ RelV v u ∧ D.rt v H'
noncomputable def PE (X : Cx) (e : Expr) (t : TE) : Prop :=
  ∀ (pins : List (Addr × Obj)) (s : Shared) (σ : St) (H : Hp) (Q : VK), Inv X pins σ H s → t σ H Q → wpAny (model X.prog X.w) X.A (eval e X.env) (EP X pins σ Q) X.xe s
noncomputable def PT (X : Cx) (e : Expr) (t : TT) : Prop :=
  ∀ (pins : List (Addr × Obj)) (s : Shared) (σ : St) (H : Hp) (Q : Bool → Hp → Prop), Inv X pins σ H s → t σ H Q → wpAny (model X.prog X.w) X.A (isTrue e X.env (eval e X.env)) (TP X pins σ Q) X.xe s
noncomputable def PW (X : Cx) (e : Expr) (t : TT) : Prop :=
  ∀ (whole : Sem Value) (pins : List (Addr × Obj)) (s : Shared) (σ : St) (H : Hp) (Q : Bool → Hp → Prop), Inv X pins σ H s → t σ H Q → wpAny (model X.prog X.w) X.A (isTrue e X.env whole) (TP X pins σ Q) X.xe s
theorem PW.pt {X : Cx} {e : Expr} {t : TT} (h : PW X e t) : PT X e t := h _
noncomputable def PA (X : Cx) (es : List Expr) (t : TA) : Prop :=
  ∀ (pos : Pos) (pins : List (Addr × Obj)) (s : Shared) (σ : St) (H : Hp) (Q : List V → Hp → Prop), Inv X pins σ H s → t σ H Q → wpAny (model X.prog X.w) X.A (spliced (backTo pos (starEach es X.env))) (AP X pins σ Q) X.xe s
noncomputable def PS (X : Cx) (st : Stmt) (t : TS) : Prop :=
  ∀ (pins : List (Addr × Obj)) (s : Shared) (σ : St) (H : Hp) (D : Ends), Inv X pins σ H s → t D σ H → wpAny (model X.prog X.w) X.A (exec st X.env) (SP X pins D) X.xe s
noncomputable def PSs (X : Cx) (st : List Stmt) (t : TS) : Prop :=
  ∀ (pins : List (Addr × Obj)) (s : Shared) (σ : St) (H : Hp) (D : Ends), Inv X pins σ H s → t D σ H → wpAny (model X.prog X.w) X.A (execs st X.env) (SP X pins D) X.xe s
theorem thn {α : Type} {t : Sem α} {Q Q' : α → Shared → Prop} {M : Model} {A : Around} {E : Value → Shared → Prop} {s : Shared} (h : wpAny M A t Q E s) (hQ : ∀ a s, Q a s → Q' a s) : wpAny M A t Q' E s := wpAny_mono h hQ fun _ _ x => x
end L2
namespace L2
open PySem PySem.Spec PyProof.Rows
section
variable {X : Cx}
noncomputable def jA (i : Nat) : TE := fun σ H Q => ∃ v, σ[i]? = some (some v) ∧ Q v H
noncomputable def tC (v : V) : TE := fun _ H Q => Q v H
theorem Vn {i : Nat} {x : Str} {pos : Pos} (hN : X.N[i]? = some x) (hv : Vis X.env.scope x) (hd : (x == ("__debug__" : Str)) = false := by decide) (hcd : (x == ("__classdict__" : Str)) = false := by decide) : PE X (.Name x pos) (jA i) := by
  intro pins s σ H Q I h
  obtain ⟨v, e, h⟩ := h
  obtain ⟨m, hn, hl⟩ := I.loc
  obtain ⟨u, r, l⟩ := hl i x v hN e hv
  have fin : EP X pins σ Q u s := ⟨v, H, I, r, h⟩
  rcases l with ⟨hk, hm⟩ | ⟨hk, c, hc, hcell⟩
  · exact wpAny_Name (wpAny_loadName_local I.ok.kind hk hn hm fin) hd
  · rcases hk with hk | hk
    · exact wpAny_Name (wpAny_loadName_cell I.ok.kind hk hc hcell fin) hd
    · exact wpAny_Name (wpAny_loadName_free I.ok.kind hk hc hcell fin hcd) hd
theorem za {i j pos} : PE X (.Constant (.int i) j pos) (tC (.int i)) := fun _ _ _ H _ I h => wpAny_Constant_int ⟨.int i, H, I.tok _, ⟨_, rfl⟩, h⟩
theorem jB {b j pos} : PE X (.Constant (.bool b) j pos) (tC (.bl b)) := fun _ _ _ H _ I h => Constant_bool ⟨.bl b, H, I, rfl, h⟩
theorem zM {x j pos} : PE X (.Constant (.str x) j pos) (tC (.str x)) := fun _ _ _ H _ I h => Calls.Constant_str ⟨.str x, H, I.tok _, ⟨_, rfl⟩, h⟩
noncomputable def Gl (X : Cx) (x : Str) : Prop := X.env.kindOf x = some .globalImplicit
theorem Xo {E : Value → Shared → Prop} {pins : List (Addr × Obj)} {s : Shared} {σ : St} {H : Hp} {x : Str} {u : Value} {pos : Pos} {Q : Value → Shared → Prop} (I : Inv X pins σ H s) (hg : Gl X x) (hm : X.mg x = some u) (h : Q u s)
    (hd : (x == ("__debug__" : Str)) = false := by decide) : wpAny (model X.prog X.w) X.A (eval (.Name x pos) X.env) Q E s :=
  Calls.Name_function_global I.ok.kind hg (Calls.loadGlobal_global (by rw [I.ok.glob]; exact I.mod.glob.keeps I.bk) hm h) hd
theorem xW {E : Value → Shared → Prop} {pins : List (Addr × Obj)} {s : Shared} {σ : St} {H : Hp} {x : Str} {u : Value} {pos : Pos} {Q : Value → Shared → Prop} (I : Inv X pins σ H s) (hg : Gl X x) (hm : X.mg x = none) (hv : bootBuiltins x = some u) (h : Q u s)
    (hn : x ≠ "__name__" := by decide) (hd : (x == ("__debug__" : Str)) = false := by decide) : wpAny (model X.prog X.w) X.A (eval (.Name x pos) X.env) Q E s := by
  obtain ⟨mb, h1, h2⟩ := I.mod.blt
  exact Calls.Name_function_global I.ok.kind hg (Calls.loadGlobal_builtin (by rw [I.ok.glob]; exact I.mod.glob.keeps I.bk) hm (by rw [I.ok.blt]; exact h1.keeps I.bk) ((h2 x hn).trans hv) h) hd
theorem jd {x : Str} {v : V} {u : Value} {pos : Pos} (hg : Gl X x) (hm : X.mg x = none) (hv : bootBuiltins x = some u) (r : RelV v u) (hn : x ≠ "__name__" := by decide) (hd : (x == ("__debug__" : Str)) = false := by decide) : PE X (.Name x pos) (tC v) :=
  fun _ _ _ H _ I h => xW I hg hm hv ⟨v, H, I, r, h⟩ hn hd
variable {a b : Expr} {ta tb : TE} {pos : Pos}
noncomputable def PC (X : Cx) (op : CmpOp) (a b : Expr) (t : TE) : Prop :=
  ∀ (pins : List (Addr × Obj)) (s : Shared) (σ : St) (H : Hp) (Q : VK), Inv X pins σ H s → t σ H Q →
    wpAny (model X.prog X.w) X.A (eval a X.env) (fun v s₁ => wpAny (model X.prog X.w) X.A (eval b X.env) (fun u s₂ => wpAny (model X.prog X.w) X.A (compareOp op v u) (EP X pins σ Q) X.xe s₂) X.xe s₁) X.xe s
theorem Zz (b : Expr) {op : CmpOp} (h : op ≠ .In) (h2 : op ≠ .NotIn) : behindInMarks op b = false := by
  have e1 : (op == CmpOp.In) = false := by cases op <;> first | rfl | exact absurd rfl h
  have e2 : (op == CmpOp.NotIn) = false := by cases op <;> first | rfl | exact absurd rfl h2
  cases b <;> simp [behindInMarks, e1, e2]
noncomputable def tB (t : TE) : TT := fun σ H Q => t σ H fun x H1 => ∃ c, x = .bl c ∧ Q c H1
theorem Vo {op : CmpOp} {t : TE} (h : PC X op a b t) (h1 : behindInMarks op b = false := by first | exact Zz _ (by decide) (by decide) | rfl) : PT X (.Compare a [op] [b] pos) (tB t) := by
  intro pins s σ H Q I hw
  refine wpAny_isTrue_Compare1 (thn (h pins s σ H _ I hw) fun v s1 h1 => thn h1 fun u s2 h2 => thn h2 fun c s3 ⟨x, H1, I1, r1, q1⟩ => ?_) h1
  obtain ⟨d, rfl, q⟩ := q1
  cases r1
  exact wpAny_truthy_bool ⟨H1, I1, q⟩
theorem kB {e : Expr} {t : TE} (h : PE X e t) (he : ∀ whole, isTrue e X.env whole = (do let v ← whole; standAt e.pos; holding [v] (truthy v)) := by intro _; rfl) : PT X e (tB t) := by
  intro pins s σ H Q I hw
  refine isTrue_plain (thn (h pins s σ H _ I hw) fun v s1 ⟨x, H1, I1, r1, q1⟩ => ?_) (he _)
  obtain ⟨d, rfl, q⟩ := q1
  cases r1
  exact wpAny_truthy_bool ⟨H1, I1, q⟩
variable {tA tB' : TT} {zE : List Expr}
noncomputable def Vp (t u : TT) : TT := fun σ H Q => t σ H fun c H1 => if c = true then u σ H1 Q else Q false H1
noncomputable def tOr (t u : TT) : TT := fun σ H Q => t σ H fun c H1 => if c = true then Q true H1 else u σ H1 Q
noncomputable def Vq (t : TT) : TT := fun σ H Q => t σ H fun c H1 => Q (!c) H1
theorem Xp (ha : PT X a tA) : PW X (.BoolOp .And [a] pos) tA := by
  intro wh pins s σ H Q I h
  refine isTrue_and (thn (ha pins s σ H Q I h) fun c s1 e => ?_)
  cases c with
  | true => exact isTrue_and_nil e
  | false => exact e
theorem Vr (ha : PT X a tA) : PW X (.BoolOp .Or [a] pos) tA := by
  intro wh pins s σ H Q I h
  refine isTrue_or (thn (ha pins s σ H Q I h) fun c s1 e => ?_)
  cases c with
  | false => exact isTrue_or_nil e
  | true => exact e
theorem Vs (ha : PT X a tA) (hb : PW X (.BoolOp .And (b :: zE) pos) tB') : PW X (.BoolOp .And (a :: b :: zE) pos) (Vp tA tB') := by
  intro wh pins s σ H Q I h
  refine isTrue_and (thn (ha pins s σ H _ I h) fun c s1 ⟨H1, I1, q1⟩ => ?_)
  cases c with
  | true => exact hb wh pins s1 σ H1 Q I1 q1
  | false => exact ⟨H1, I1, q1⟩
theorem Yx (ha : PT X a tA) (hb : PW X (.BoolOp .Or (b :: zE) pos) tB') : PW X (.BoolOp .Or (a :: b :: zE) pos) (tOr tA tB') := by
  intro wh pins s σ H Q I h
  refine isTrue_or (thn (ha pins s σ H _ I h) fun c s1 ⟨H1, I1, q1⟩ => ?_)
  cases c with
  | true => exact ⟨H1, I1, q1⟩
  | false => exact hb wh pins s1 σ H1 Q I1 q1
theorem kC (ha : PT X a tA) : PT X (.UnaryOp .Not a pos) (Vq tA) := by
  intro pins s σ H Q I h
  exact isTrue_not (ha pins s σ H (fun c H1 => Q (!c) H1) I h)
noncomputable def Yy (ta tb : TE) : TE := fun σ H Q => ta σ H fun x H1 => ∃ c, x = .bl c ∧ if c = true then tb σ H1 Q else Q (.bl false) H1
theorem Vt {op} {t : TE} (h : PE X a t) : PE X (.BoolOp op [a] pos) t := fun pins s σ H Q I hw => BoolOp_one (h pins s σ H Q I hw)
theorem Vu (ha : PE X a ta) (hb : PE X (.BoolOp .And (b :: zE) pos) tb) : PE X (.BoolOp .And (a :: b :: zE) pos) (Yy ta tb) := by
  intro pins s σ H Q I h
  refine BoolOp_and (thn (ha pins s σ H _ I h) fun v s1 ⟨x, H1, I1, r1, q1⟩ => ?_)
  obtain ⟨c, rfl, q1⟩ := q1
  cases r1
  refine wpAny_truthy_bool ?_
  cases c with
  | true => exact hb pins s1 σ H1 Q I1 q1
  | false => exact ⟨.bl false, H1, I1, rfl, q1⟩
end
end L2
namespace L2
open PySem PySem.Spec PyProof.Rows
noncomputable def SqL (K : PySem.W.Frag) (H : Hp) (a : Addr) (xs : List V) : Prop :=
  Rd H a (.lst xs) ∨
    ∃ (o : Obj) (its : Array Value) (n : Nat), K.lookup a = some o ∧ o.cls = .type "list" ∧ o.dict = none ∧ o.data = .seq its n ∧ its.size ≤ sizeLine ∧ Vals xs its.toList
noncomputable def SqT (K : PySem.W.Frag) (H : Hp) (a : Addr) (xs : List V) : Prop :=
  Rd H a (.tup xs) ∨
    ∃ (o : Obj) (its : Array Value) (n : Nat), K.lookup a = some o ∧ o.cls = .type "tuple" ∧ o.data = .seq its n ∧ its.size ≤ sizeLine ∧ Vals xs its.toList
noncomputable def Qu : Value → Option V
  | .none => some .non
  | .bool b => some (.bl b)
  | .int i _ => some (.int i)
  | .str x _ => some (.str x)
  | .bytes b _ => some (.byt b)
  | .float b _ => some (.flt b)
  | .ref a => some (.ref a)
  | .type n => some (.ty n)
  | _ => none
theorem RelV.abs {x : V} {u : Value} (r : RelV x u) : Qu u = some x := by
  cases x with
  | non => cases r; rfl
  | bl _ => cases r; rfl
  | int _ => obtain ⟨t, rfl⟩ := r; rfl
  | str _ => obtain ⟨t, rfl⟩ := r; rfl
  | byt _ => obtain ⟨t, rfl⟩ := r; rfl
  | flt _ => obtain ⟨t, rfl⟩ := r; rfl
  | ref _ => cases r; rfl
  | ty _ => cases r; rfl
theorem RelV.inj {x y : V} {u : Value} (r : RelV x u) (q : RelV y u) : x = y := Option.some.inj (r.abs.symm.trans q.abs)
theorem Vals.inj : ∀ {xs ys : List V} {us : List Value}, Vals xs us → Vals ys us → xs = ys
  | _, _, _, .nil, .nil => rfl
  | _, _, _, .cons r t, .cons r' t' => by rw [r.inj r', Vals.inj t t']
section
variable {X : Cx} {pins : List (Addr × Obj)} {σ : St} {H : Hp} {s : Shared} {a : Addr} {xs ys : List V}
theorem SqL.of {K : PySem.W.Frag} (h : H a = some (.lst xs)) : SqL K H a xs := .inl (.inl h)
theorem SqT.of {K : PySem.W.Frag} (h : H a = some (.tup xs)) : SqT K H a xs := .inl (.inl h)
theorem Inv.list (I : Inv X pins σ H s) (h : SqL X.K H a xs) : ∃ its : List Value, Vals xs its ∧ PlainL s.heap a its.toArray ∧ xs.length ≤ sizeLine := by
  rcases h with h | ⟨o, its, n, hk, hc, hd, hs, hz, r⟩
  · obtain ⟨z, its, n, r, e⟩ := h.ok I.hok
    exact ⟨its, r, ⟨_, n, e, rfl, rfl, rfl⟩, z⟩
  · refine ⟨its.toList, r, ⟨o, n, I.kIn a o hk, hc, hd, by simpa using hs⟩, ?_⟩
    have e := r.length
    simp only [Array.length_toList] at e
    omega
theorem Inv.tuple (I : Inv X pins σ H s) (h : SqT X.K H a xs) : ∃ its : List Value, Vals xs its ∧ IsTup s.heap a its.toArray ∧ xs.length ≤ sizeLine := by
  rcases h with h | ⟨o, its, n, hk, hc, hs, hz, r⟩
  · obtain ⟨z, its, r, p⟩ := h.ok I.hok
    exact ⟨its, r, p, z⟩
  · refine ⟨its.toList, r, ⟨o, I.kIn a o hk, hc, n, by simpa using hs⟩, ?_⟩
    have e := r.length
    simp only [Array.length_toList] at e
    omega
theorem Inv.list_inj (I : Inv X pins σ H s) (h : SqL X.K H a xs) (h' : SqL X.K H a ys) : xs = ys := by
  obtain ⟨its, r, ⟨o, n, e, _, _, d⟩, _⟩ := I.list h
  obtain ⟨its', r', ⟨o', n', e', _, _, d'⟩, _⟩ := I.list h'
  rw [e] at e'; cases e'
  rw [d] at d'
  injection d' with d1 _
  have : its = its' := by simpa using congrArg Array.toList d1
  subst this
  exact r.inj r'
end
noncomputable abbrev Cx.wish (X : Cx) (E : Value → Shared → Prop) : Cx := { X with xe := E }
noncomputable abbrev Cx.nox (X : Cx) : Cx := X.wish fun _ _ => False
theorem Cx.Ok.wish {X : Cx} (ok : X.Ok) (E : Value → Shared → Prop) : (X.wish E).Ok :=
  ⟨ok.mod, ok.kind, ok.glob, ok.blt, ok.above, ok.inj, ok.has, ok.cab, ok.hd, ok.frames, ok.stk, ok.exf, ok.bs, ok.bsz, ok.noex, ok.exfs, ok.funs, ok.frf⟩
theorem Cx.Ok.unwish {X : Cx} {E : Value → Shared → Prop} (ok : (X.wish E).Ok) : X.Ok :=
  ⟨ok.mod, ok.kind, ok.glob, ok.blt, ok.above, ok.inj, ok.has, ok.cab, ok.hd, ok.frames, ok.stk, ok.exf, ok.bs, ok.bsz, ok.noex, ok.exfs, ok.funs, ok.frf⟩
section
variable {X : Cx} {pins : List (Addr × Obj)} {σ : St} {H : Hp} {s : Shared} {E : Value → Shared → Prop}
theorem Inv.wish (I : Inv X pins σ H s) (E : Value → Shared → Prop) : Inv (X.wish E) pins σ H s := ⟨I.ok.wish E, I.os, I.bare, I.base, I.loc, I.cell, I.free, I.freeC, I.pin, I.hok, I.len⟩
theorem Inv.unwish (I : Inv (X.wish E) pins σ H s) : Inv X pins σ H s := ⟨I.ok.unwish, I.os, I.bare, I.base, I.loc, I.cell, I.free, I.freeC, I.pin, I.hok, I.len⟩
theorem SP.unwish {D : Ends} {f : Flow} {s' : Shared} (h : SP (X.wish E) pins D f s') : SP X pins D f s' := by
  cases f with
  | next => obtain ⟨σ', H', I, q⟩ := h; exact ⟨σ', H', I.unwish, q⟩
  | brk => obtain ⟨σ', H', I, q⟩ := h; exact ⟨σ', H', I.unwish, q⟩
  | cont => obtain ⟨σ', H', I, q⟩ := h; exact ⟨σ', H', I.unwish, q⟩
  | ret u => obtain ⟨v, σ', H', I, r, q⟩ := h; exact ⟨v, σ', H', I.unwish, r, q⟩
theorem PE.nox {e : Expr} {t : TE} (h : PE X.nox e t) : PE X e t := fun pins s σ H Q I hw =>
  wpAny_mono (h pins s σ H Q (I.wish _) hw) (fun _ _ ⟨v, H', I', r, q⟩ => ⟨v, H', I'.unwish, r, q⟩) fun _ _ z => False.elim z
theorem PT.nox {e : Expr} {t : TT} (h : PT X.nox e t) : PT X e t := fun pins s σ H Q I hw =>
  wpAny_mono (h pins s σ H Q (I.wish _) hw) (fun _ _ ⟨H', I', q⟩ => ⟨H', I'.unwish, q⟩) fun _ _ z => False.elim z
theorem PSs.nox {st : List Stmt} {t : TS} (h : PSs X.nox st t) : PSs X st t := fun pins s σ H D I hw =>
  wpAny_mono (h pins s σ H D (I.wish _) hw) (fun _ _ q => q.unwish) fun _ _ z => False.elim z
end
section
variable {X : Cx} {st : Stmt} {zE : List Stmt} {t u : TS} {e : Expr} {te : TE} {pos : Pos}
noncomputable def Yz : TS := fun D σ H => D.nx σ H
noncomputable def Vv (t u : TS) : TS := fun D σ H => t { D with nx := u D } σ H
theorem zW : PSs X [] Yz := fun _ _ σ H _ I h => wpAny_execs_nil ⟨σ, H, I, h⟩
theorem zd (h1 : PS X st t) (h2 : PSs X zE u) : PSs X (st :: zE) (Vv t u) := by
  intro pins s σ H D I h
  refine wpAny_execs_cons (thn (h1 pins s σ H { D with nx := u D } I h) fun f s1 q => ?_)
  cases f with
  | next =>
    obtain ⟨σ', H', I', q⟩ := q
    exact h2 pins s1 σ' H' D I' q
  | ret v => exact q
  | brk => exact q
  | cont => exact q
theorem zi (h1 : PS X st t) : PSs X [st] t := by
  intro pins s σ H D I h
  refine wpAny_execs_cons (thn (h1 pins s σ H D I h) fun f s1 q => ?_)
  cases f with
  | next => exact wpAny_execs_nil q
  | ret v => exact q
  | brk => exact q
  | cont => exact q
theorem Inv.quiet {pins : List (Addr × Obj)} {σ : St} {H : Hp} {s : Shared} (I : Inv X pins σ H s) : interactive X.env = false := by simp [interactive, I.ok.kind]
noncomputable def YA (te : TE) : TS := fun D σ H => te σ H fun _ H1 => D.nx σ H1
theorem yv (he : PE X e te) (hs : swapsWith e none pos.line X.env = pure false := by rfl) : PS X (.Expr e pos) (YA te) := by
  intro pins s σ H D I h
  exact wpAny_Expr_any (thn (he pins s σ H _ I h) fun v s1 ⟨x, H1, I1, r1, q1⟩ => ⟨σ, H1, I1, q1⟩) I.quiet hs
noncomputable def Vw (te : TE) : TS := fun D σ H => te σ H D.rt
theorem zt (he : PE X e te) : PS X (.Return (some e) pos) (Vw te) := by
  intro pins s σ H D I h
  exact wpAny_Return_some (thn (he pins s σ H _ I h) fun v s1 ⟨x, H1, I1, r1, q1⟩ => ⟨x, σ, H1, I1, r1, q1⟩)
noncomputable def Vx (c : TT) (t u : TS) : TS := fun D σ H => c σ H fun b H1 => if b = true then t D σ H1 else u D σ H1
theorem yh {c : Expr} {a b : List Stmt} {tc : TT} (hc : PT X c tc) (ha : PSs X a t) (hb : PSs X b u) : PS X (.If c a b pos) (Vx tc t u) := by
  intro pins s σ H D I h
  refine wpAny_If (thn (hc pins s σ H _ I h) fun d s1 ⟨H1, I1, q1⟩ => ?_)
  cases d with
  | true => exact ha pins s1 σ H1 D I1 q1
  | false => exact hb pins s1 σ H1 D I1 q1
end
noncomputable abbrev TG := V → St → Hp → (St → Hp → Prop) → Prop
noncomputable abbrev TGs := List V → St → Hp → (St → Hp → Prop) → Prop
noncomputable def PG (X : Cx) (target : Expr) (t : TG) : Prop :=
  ∀ (pins : List (Addr × Obj)) (s : Shared) (σ : St) (H : Hp) (v : V) (u : Value) (Q : St → Hp → Prop), Inv X pins σ H s → RelV v u → t v σ H Q →
    wpAny (model X.prog X.w) X.A (assign target X.env u) (fun _ s' => ∃ σ' H', Inv X pins σ' H' s' ∧ Q σ' H') X.xe s
noncomputable def PGs (X : Cx) (ts : List Expr) (t : TGs) : Prop :=
  ∀ (pins : List (Addr × Obj)) (s : Shared) (σ : St) (H : Hp) (vs : List V) (us : List Value) (Q : St → Hp → Prop), Inv X pins σ H s → Vals vs us → t vs σ H Q →
    wpAny (model X.prog X.w) X.A (assignInOrder ((assignEach ts X.env).map (·.2)) us) (fun _ s' => ∃ σ' H', Inv X pins σ' H' s' ∧ Q σ' H') X.xe s
noncomputable abbrev ZA := V → V → V → Hp → (Hp → Prop) → Prop
noncomputable def Vy (X : Cx) (t : ZA) : Prop :=
  ∀ (pins : List (Addr × Obj)) (s : Shared) (σ : St) (H : Hp) (o i v : V) (ov iv u : Value) (Q : Hp → Prop), Inv X pins σ H s → RelV o ov → RelV i iv → RelV v u → t o i v H Q →
    wpAny (model X.prog X.w) X.A (setItem ov iv u) (fun _ s' => ∃ H', Inv X pins σ H' s' ∧ Q H') X.xe s
section
variable {X : Cx} {pos : Pos}
noncomputable def vd (i : Nat) : TG := fun v σ H Q => Q (σ.set i (some v)) H
theorem zr {i : Nat} {x : Str} (hN : X.N.Nodup) (hi : X.N[i]? = some x) (hx : Loc X.env.scope x) (hf : X.fn x = true ∨ X.env.scope.names.lookup x = some .local := by first | exact .inl rfl | exact .inr rfl | assumption) : PG X (.Name x pos) (vd i) := by
  intro pins s σ H v u Q I r h
  exact wpAny_assign_Name (u3 I hN hi hx r (fun s' I' => ⟨_, H, I', h⟩) hf)
noncomputable def Vz : TGs := fun vs σ H Q => vs = [] ∧ Q σ H
noncomputable def YB (t : TG) (u : TGs) : TGs := fun vs σ H Q => ∃ v r, vs = v :: r ∧ t v σ H fun σ' H' => u r σ' H' Q
theorem Xq : PGs X [] Vz := by
  intro pins s σ H vs us Q I r h
  obtain ⟨e, h⟩ := h
  subst e
  cases r
  exact assignInOrder_nil ⟨σ, H, I, h⟩
theorem u4 {e : Expr} {es : List Expr} {t : TG} {u : TGs} (h1 : PG X e t) (h2 : PGs X es u)
    (hs : (assignEach (e :: es) X.env).map (·.2) = assign e X.env :: (assignEach es X.env).map (·.2) := by rfl) : PGs X (e :: es) (YB t u) := by
  intro pins s σ H vs us Q I r h
  obtain ⟨v, vr, e1, h⟩ := h
  subst e1
  cases r with
  | cons r rr =>
    rw [hs]
    refine assignInOrder_cons (thn (h1 pins s σ H _ _ _ I r h) fun _ s1 ⟨σ1, H1, I1, q1⟩ => ?_)
    exact h2 pins s1 σ1 H1 _ _ Q I1 rr q1
noncomputable def ZB (K : PySem.W.Frag) (n : Nat) (t : TGs) : TG := fun v σ H Q => ∃ a xs, v = .ref a ∧ SqT K H a xs ∧ xs.length = n ∧ t xs σ H Q
theorem VA {es : List Expr} {k : Nat} {t : TGs} {n : Nat} (hc : X.calm = true) (h : PGs X es t)
    (hn : (assignEach es X.env).length = n := by rfl) (hst : (assignEach es X.env).findIdx? (·.1) = none := by rfl) : PG X (.Tuple es k pos) (ZB X.K n t) := by
  intro pins s σ H v u Q I r hw
  obtain ⟨a, xs, e1, hq, hl, hw⟩ := hw
  subst e1
  cases r
  obtain ⟨its, rv, ht, hz⟩ := I.tuple hq
  refine assign_Tuple_tuple (I.ok.hd hc) ht (by simp [hn, ← hl, rv.length]) hst fun h' hx => ?_
  have I1 : Inv X pins σ H { s with heap := h' } := I.kept (t' := s.toks) fun b o e => hx b o (Nat.ne_of_lt (Heap.lt_size e)) e
  exact h pins _ σ H xs _ Q I1 (by simpa using rv) hw
noncomputable def VB (to ti : TE) (t : ZA) : TG := fun v σ H Q => to σ H fun o H1 => ti σ H1 fun i H2 => t o i v H2 fun H3 => Q σ H3
theorem kD {o i : Expr} {to ti : TE} {t : ZA} (ho : PE X o to) (hi : PE X i ti) (hs : Vy X t)
    (ha : ∀ v, assign (.Subscript o i pos) X.env v = (do
      let ov ← holding [v] (eval o X.env)
      let iv ← holding [v, ov] (eval i X.env)
      standAt pos
      holding [v, ov, iv] (setItem ov iv v)
      release [v, ov, iv] []) := by intro _; rfl) : PG X (.Subscript o i pos) (VB to ti t) := by
  intro pins s σ H v u Q I r h
  rw [ha]
  refine wpAny_bind (wpAny_holding (thn (ho pins s σ H _ I h) fun ov s1 ⟨x, H1, I1, r1, q1⟩ => ?_))
  refine wpAny_bind (wpAny_holding (thn (hi pins s1 σ H1 _ I1 q1) fun iv s2 ⟨y, H2, I2, r2, q2⟩ => ?_))
  refine wpAny_bind (wpAny_standAt (wpAny_bind (wpAny_holding (thn (hs pins s2 σ H2 x y v ov iv u _ I2 r1 r2 r q2) fun _ s3 ⟨H3, I3, q3⟩ => ?_))))
  exact wpAny_release ⟨σ, H3, I3, q3⟩
noncomputable def u5 (te : TE) (g : TG) : TS := fun D σ H => te σ H fun x H1 => g x σ H1 D.nx
theorem kE {tg e : Expr} {te : TE} {g : TG} (he : PE X e te) (hg : PG X tg g) (hs : swapsWithSole [tg] e pos.line X.env = pure false := by rfl) (hw : swappedStores [tg] e X.env = pure none := by rfl)
    (h1 : (assignEach [tg] X.env).map (·.2) = [assign tg X.env] := by rfl) : PS X (.Assign [tg] e pos) (u5 te g) := by
  intro pins s σ H D I h
  refine wpAny_Assign_stores (thn (he pins s σ H _ I h) fun v s1 ⟨x, H1, I1, r1, q1⟩ => ?_) hs hw
  rw [h1]
  exact thn (hg pins s1 σ H1 x v _ I1 r1 q1) fun _ s2 q => q
theorem zk {i : Nat} {x : Str} {e : Expr} {te : TE} {pos' : Pos} (hN : X.N.Nodup) (hi : X.N[i]? = some x) (hx : Loc X.env.scope x) (he : PE X e te) (hs : swapsWith e (some (.Name x pos')) pos.line X.env = pure false := by rfl) (hf : X.fn x = true ∨ X.env.scope.names.lookup x = some .local := by first | exact .inl rfl | exact .inr rfl | assumption) :
    PS X (.Assign [.Name x pos'] e pos) (u5 te (vd i)) := by
  intro pins s σ H D I h
  refine wpAny_Assign_Name (thn (he pins s σ H _ I h) fun v s1 ⟨y, H1, I1, r1, q1⟩ => ?_) hs
  exact u3 I1 hN hi hx r1 (fun s2 I2 => ⟨_, H1, I2, q1⟩) hf
end
section
variable {X : Cx} {pos : Pos}
end
structure It where
  go : Nat → Hp → Prop
  yld : Nat → Hp → V → Hp → Prop
  stop : Nat → Hp → Prop
noncomputable def FpOk (X : Cx) (pins : List (Addr × Obj)) (H : Hp) (b : Addr) : Prop :=
  H b = none ∧ b ≠ X.env.locals ∧ b ∉ X.fs ∧ (b ∈ X.ex ∨ X.s₀.heap.objs.size ≤ b) ∧ (∀ x c, X.env.cells.lookup x = some c → c ≠ b) ∧ ∀ p ∈ X.pn ++ pins, p.1 ≠ b
theorem Inv.fpOk {X : Cx} {pins : List (Addr × Obj)} {σ : St} {H H' : Hp} {s : Shared} {b : Addr} (I : Inv X pins σ H s) (hb : s.heap.objs.size ≤ b) (hn : H' b = none) : FpOk X pins H' b := by
  refine ⟨hn, Nat.ne_of_gt (Nat.lt_of_lt_of_le I.lt hb), I.nofs hb, .inr (Nat.le_trans I.sz hb), fun x c e z => ?_, fun p hp z => ?_⟩
  · obtain ⟨v, q⟩ := I.cell x c e
    exact absurd (Nat.lt_of_lt_of_le q.lt (by rw [z]; exact hb)) (Nat.lt_irrefl _)
  · exact absurd (Nat.lt_of_lt_of_le (Heap.lt_size (I.pin p hp).1) (by rw [z]; exact hb)) (Nat.lt_irrefl _)
structure Turn (P : Program) (w : World) (K : PySem.W.Frag) (tg : Expr) (J : It) (fp : List Addr) (it : Addr) (tn : Nat → Heap → Prop) : Prop where
  mem : it ∈ fp
  obj : ∀ i h, tn i h → ∀ b ∈ fp, ∃ o, h.get? b = some o ∧ ∀ v, o.data ≠ .cell v
  keep : ∀ i h h', tn i h → (∀ b ∈ fp, ∀ o, h.get? b = some o → h'.get? b = some o) → tn i h'
  item : ∀ (X : Cx), X.prog = P → X.w = w → X.K = K → X.calm = true → ∀ (i : Nat) (pins : List (Addr × Obj)) (s : Shared) (σ : St) (H : Hp) (E : Value → Shared → Prop), Inv X pins σ H s → (∀ b ∈ fp, FpOk X pins H b) → tn i s.heap → J.go i H →
    wpAny (model P w) X.A (pyNext (.ref it)) (fun r s1 => ∃ u, r = some u ∧
      wpAny (model P w) X.A (letOwnedTupleGo tg (.ref it) u) (fun _ s2 => ∃ x H', Inv X pins σ H' s2 ∧ RelV x u ∧ J.yld i H x H' ∧ tn (i + 1) s2.heap ∧ ∀ b ∈ fp, H' b = none) E s1) E s
  done : ∀ (X : Cx), X.prog = P → X.w = w → X.K = K → X.calm = true → ∀ (i : Nat) (pins : List (Addr × Obj)) (s : Shared) (σ : St) (H : Hp) (E : Value → Shared → Prop), Inv X pins σ H s → (∀ b ∈ fp, FpOk X pins H b) → tn i s.heap → J.stop i H →
    wpAny (model P w) X.A (pyNext (.ref it)) (fun r s1 => r = none ∧ Inv X pins σ H s1) E s
  self : ∀ (A : Around) (i : Nat) (s : Shared) (Q : Value → Shared → Prop) (E : Value → Shared → Prop), tn i s.heap → Q (.ref it) s → wpAny (model P w) A (pyIter (.ref it)) Q E s
noncomputable abbrev TI := St → Hp → (It → Hp → Prop) → Prop
noncomputable def PIE (X : Cx) (pins : List (Addr × Obj)) (σ : St) (tg : Expr) (R : It → Hp → Prop) (itv : Value) (s2 : Shared) : Prop :=
  ∃ (it : Addr) (fp : List Addr) (tn : Nat → Heap → Prop) (J : It) (H' : Hp), itv = .ref it ∧ Inv X pins σ H' s2 ∧ Turn X.prog X.w X.K tg J fp it tn ∧ tn 0 s2.heap ∧ (∀ b ∈ fp, FpOk X pins H' b) ∧ R J H'
noncomputable def PI (X : Cx) (tg iter : Expr) (wi : TI) : Prop :=
  ∀ (pins : List (Addr × Obj)) (s : Shared) (σ : St) (H : Hp) (R : It → Hp → Prop), Inv X pins σ H s → wi σ H R →
    wpAny (model X.prog X.w) X.A (eval iter X.env) (fun v s1 => wpAny (model X.prog X.w) X.A (pyIter v) (PIE X pins σ tg R) X.xe s1) X.xe s
theorem jC {M : Model} {A : Around} {E : Value → Shared → Prop} {s : Shared} {tg : Expr} {it : Addr} {u : Value} {o : Obj} {n : String} {vs : Array Value} {Q : Unit → Shared → Prop} (ho : s.heap.get? it = some o) (hc : o.cls = .type n) (hd : o.data = .fields vs)
    (hn : ["enumerate", "zip", "dict_itemiterator", "dict_reverseitemiterator", "odict_iterator", "itertools.zip_longest", "itertools.pairwise"].contains n = false) (hQ : Q () s) : wpAny M A (letOwnedTupleGo tg (.ref it) u) Q E s := by
  unfold letOwnedTupleGo
  cases tg <;> first
    | exact wpAny_pure hQ
    | (cases u <;> first
        | exact wpAny_pure hQ
        | (refine wpAny_bind (wpAny_load ho ?_)
           rw [hc, hd]
           show wpAny M A (if (["enumerate", "zip", "dict_itemiterator", "dict_reverseitemiterator", "odict_iterator", "itertools.zip_longest", "itertools.pairwise"].contains n && vs[0]? == some (rawInt _)) = true then _ else _) Q E s
           rw [if_neg (by intro h; rw [hn, Bool.false_and] at h; cases h)]
           exact wpAny_pure hQ))
noncomputable def Itl (K : PySem.W.Frag) (a : Addr) : It :=
  ⟨fun i H => ∃ xs x, SqL K H a xs ∧ xs[i]? = some x, fun i H x H' => H' = H ∧ ∀ xs, SqL K H a xs → xs[i]? = some x, fun i H => ∃ xs, SqL K H a xs ∧ xs.length ≤ i⟩
noncomputable def Itt (K : PySem.W.Frag) (a : Addr) : It :=
  ⟨fun i H => ∃ xs x, SqT K H a xs ∧ xs[i]? = some x, fun i H x H' => H' = H ∧ ∀ xs, SqT K H a xs → xs[i]? = some x, fun i H => ∃ xs, SqT K H a xs ∧ xs.length ≤ i⟩
noncomputable def Itr (lo : Int) (n : Nat) : It := ⟨fun i _ => i < n, fun i H x H' => H' = H ∧ x = .int (lo + i), fun i _ => n ≤ i⟩
theorem kG {P : Program} {w : World} {K : PySem.W.Frag} {tg : Expr} (a it : Addr) : Turn P w K tg (Itl K a) [it] it (fun i h => h.IsListIter it a i) where
  mem := by simp
  obj := fun i h st b hb => by
    have e : b = it := by simpa using hb
    subst e
    obtain ⟨o, e, c, d⟩ := st
    exact ⟨o, e, fun v z => by rw [d] at z; cases z⟩
  keep := fun i h h' st k => st.at fun o e => k it (by simp) o e
  item := by
    intro X hP hw hK hc i pins s σ H E I hf st hg
    subst hP hw hK
    obtain ⟨xs, x, hq, hx⟩ := hg
    obtain ⟨its, rv, p, hz⟩ := I.list hq
    obtain ⟨u, hu, ru⟩ := rv.get hx
    obtain ⟨f0, f1, f2, f3, f4, f5⟩ := hf it (by simp)
    refine wpAny_pyNext_list_item st p.isList (x := u) (by simpa using hu) fun h' st' sb => ?_
    have I1 : Inv X pins σ H { s with heap := h' } := I.turned (t' := s.toks) (fun b o hb e => (sb.2 b hb).trans e) f0 f1 f3 f4 f5
    obtain ⟨o, e, c, d⟩ := id st'
    exact ⟨u, rfl, jC (s := { s with heap := h' }) e c d (by decide) ⟨x, H, I1, ru, ⟨rfl, fun ys hy => by rw [I.list_inj hy hq]; exact hx⟩, st', fun b hb => (hf b hb).1⟩⟩
  done := by
    intro X hP hw hK hc i pins s σ H E I hf st hg
    subst hP hw hK
    obtain ⟨xs, hq, hx⟩ := hg
    obtain ⟨its, rv, p, hz⟩ := I.list hq
    obtain ⟨f0, f1, f2, f3, f4, f5⟩ := hf it (by simp)
    have hl := rv.length
    exact wpAny_pyNext_list_end (I.ok.hd hc) st p.isList (by simp; omega) fun h' eb => ⟨rfl, I.turned (t' := s.toks) (fun b o hb e => eb b o hb e) f0 f1 f3 f4 f5⟩
  self := fun _ _ _ _ _ st h => wpAny_pyIter_listiter st h
theorem jD {P : Program} {w : World} {K : PySem.W.Frag} {tg : Expr} (it : Addr) (lo : Int) (n : Nat) : Turn P w K tg (Itr lo n) [it] it (fun i h => IsRangeIter h it (lo + (i : Nat) * 1) ((n : Int) - (i : Nat)) 1) where
  mem := by simp
  obj := fun i h st b hb => by
    have e : b = it := by simpa using hb
    subst e
    exact ⟨_, st, fun v z => by
      have z' : Data.fields _ = Data.cell v := z
      cases z'⟩
  keep := fun i h h' st k => k it (by simp) _ st
  item := by
    intro X hP hw hK hc i pins s σ H E I hf st hg
    subst hP hw hK
    obtain ⟨f0, f1, f2, f3, f4, f5⟩ := hf it (by simp)
    have W := Walks.range (prog := X.prog) (w := X.w) (I.ok.hd hc) it lo 1 n
    refine W.item i s _ _ hg st fun v h' tk hv st' kk => ?_
    obtain ⟨t, rfl⟩ := hv
    have I1 : Inv X pins σ H { s with heap := h', toks := tk } := I.turned (fun b o hb e => kk b o (by simpa using hb) e) f0 f1 f3 f4 f5
    refine ⟨_, rfl, jC (s := { s with heap := h', toks := tk }) (n := "range_iterator") st' rfl rfl (by decide) ⟨.int (lo + i), H, I1, ⟨t, ?_⟩, ⟨rfl, rfl⟩, st', fun b hb => (hf b hb).1⟩⟩
    rw [Int.mul_one]
  done := by
    intro X hP hw hK hc i pins s σ H E I hf st hg
    subst hP hw hK
    obtain ⟨f0, f1, f2, f3, f4, f5⟩ := hf it (by simp)
    exact wpAny_pyNext_range_end (I.ok.hd hc) st (by have : n ≤ i := hg; omega) fun h' eb => ⟨rfl, I.turned (t' := s.toks) (fun b o hb e => eb b o hb e) f0 f1 f3 f4 f5⟩
  self := fun _ _ _ _ _ st h => wpAny_pyIter_rangeiter st h
end L2
namespace L2
open PySem PySem.Spec PyProof.Rows
section
variable {X : Cx} {tg : Expr}
noncomputable def jE (K : PySem.W.Frag) (tl : TE) : TI := fun σ H R => tl σ H fun x H1 => ∃ a, x = .ref a ∧ (∃ xs, SqL K H1 a xs) ∧ R (Itl K a) H1
theorem Xr {l : Expr} {tl : TE} (hl : PE X l tl) : PI X tg l (jE X.K tl) := by
  intro pins s σ H R I h
  refine thn (hl pins s σ H _ I h) fun v s1 ⟨x, H1, I1, r1, q1⟩ => ?_
  obtain ⟨a, e, ⟨xs, hq⟩, q⟩ := q1
  subst e
  cases r1
  obtain ⟨its, rv, p, hz⟩ := I1.list hq
  refine wpAny_pyIter_list p.isList ?_
  refine ⟨s1.heap.objs.size, [s1.heap.objs.size], _, _, H1, rfl, I1.kept (t' := s1.toks) fun b o e => Heap.get?_push_of_some _ e, kG a _, ⟨_, Heap.get?_push_size _ rfl, rfl, rfl⟩, fun b hb => ?_, q⟩
  have e : b = s1.heap.objs.size := by simpa using hb
  subst e
  exact I1.fpOk (Nat.le_refl _) (I1.hok.fresh (Nat.le_refl _))
theorem ZC {pins : List (Addr × Obj)} {σ : St} {H : Hp} {s : Shared} {R : It → Hp → Prop} {E : Value → Shared → Prop} {lo hi : Int} {t u v : Tok} {tk : Nat} (I : Inv X pins σ H s) (h1 : -(2 ^ 62) ≤ lo) (h2 : lo < 2 ^ 62) (h3 : -(2 ^ 62) ≤ hi) (h4 : hi < 2 ^ 62)
    (q : R (Itr lo (hi - lo).toNat) H) : wpAny (model X.prog X.w) X.A (pyIter (.ref s.heap.objs.size)) (PIE X pins σ tg R) E { s with heap := s.heap.push { cls := .type "range", data := .fields #[.int lo t, .int hi u, .int 1 v] }, toks := tk } := by
  refine wpAny_pyIter_range (IsRange.new ..) (small_one h1 h2 h3 h4) ?_
  have I1 : Inv X pins σ H { s with heap := s.heap.push { cls := .type "range", data := .fields #[.int lo t, .int hi u, .int 1 v] }, toks := tk } := I.kept fun b o e => Heap.get?_push_of_some _ e
  refine ⟨(s.heap.push { cls := .type "range", data := .fields #[.int lo t, .int hi u, .int 1 v] }).objs.size, [(s.heap.push { cls := .type "range", data := .fields #[.int lo t, .int hi u, .int 1 v] }).objs.size], _, _, H, rfl,
    I1.kept (t' := tk) fun b o e => Heap.get?_push_of_some _ e, jD _ lo (hi - lo).toNat, ?_, fun b hb => ?_, q⟩
  · have e1 : lo + ((0 : Nat) : Int) * 1 = lo := by simp
    have e2 : (((hi - lo).toNat : Nat) : Int) - ((0 : Nat) : Int) = Builtin.Range.rangeSize lo hi 1 := by rw [rangeSize_one]; split <;> omega
    show IsRangeIter _ _ (lo + ((0 : Nat) : Int) * 1) ((((hi - lo).toNat : Nat) : Int) - ((0 : Nat) : Int)) 1
    rw [e1, e2]
    exact Heap.get?_push_size _ rfl
  · have e : b = (s.heap.push { cls := .type "range", data := .fields #[.int lo t, .int hi u, .int 1 v] }).objs.size := by simpa using hb
    subst e
    exact I1.fpOk (Nat.le_refl _) (I1.hok.fresh (Nat.le_refl _))
noncomputable def YC (ta : TA) : TI := fun σ H R => ta σ H fun vs H1 => ∃ j : Int, vs = [.int j] ∧ -(2 ^ 62) ≤ j ∧ j < 2 ^ 62 ∧ R (Itr 0 j.toNat) H1
theorem zI {a : Expr} {ta : TA} {p pos : Pos} (hg : Gl X "range") (hm : X.mg "range" = none) (ha : PA X [a] ta) (hs : starEach [a] X.env = [(false, eval a X.env)] := by rfl) : PI X tg (.Call (.Name "range" p) [a] [] pos) (YC ta) := by
  intro pins s σ H R I h
  refine Call_ (xW I hg hm boot_range (PyProof.Rows.callWith_type1 (thn (ha pos pins s σ H _ I h) fun us s1 ⟨vs, H1, I1, r1, q1⟩ => ?_) hs rfl))
  obtain ⟨j, e, q1, q2, q⟩ := q1
  subst e
  cases r1 with
  | cons r rr =>
    cases rr
    obtain ⟨t, rfl⟩ := r
    exact call_range_1 (ZC I1 (by omega) (by omega) q1 q2 (by simpa using q))
noncomputable def VC (wi : TI) (g : TG) (tb : TS) : TS := fun D σ H => wi σ H fun J H1 => ∃ W : Nat → Nat → St → Hp → Prop, (∃ m, W 0 m σ H1) ∧ ∀ i m σ H, W i m σ H →
  (J.stop i H ∧ D.nx σ H) ∨ (J.go i H ∧ ∃ N : St → Hp → Prop, (∀ σ' H', N σ' H' → ∃ m', m' < m ∧ W (i + 1) m' σ' H') ∧ ∀ x H', J.yld i H x H' → g x σ H' fun σ2 H2 => tb { D with nx := N, ct := N, bk := D.nx } σ2 H2)
noncomputable def xX (fp : List Addr) (h : Heap) : List (Addr × Obj) := fp.filterMap fun b => (h.get? b).map fun o => (b, o)
theorem yN {fp : List Addr} {h : Heap} {b : Addr} {o : Obj} (hb : b ∈ fp) (e : h.get? b = some o) : (b, o) ∈ xX fp h := List.mem_filterMap.mpr ⟨b, hb, by rw [e]; rfl⟩
theorem kH {fp : List Addr} {h : Heap} {p : Addr × Obj} (hp : p ∈ xX fp h) : p.1 ∈ fp ∧ h.get? p.1 = some p.2 := by
  obtain ⟨b, hb, e⟩ := List.mem_filterMap.mp hp
  cases q : h.get? b with
  | none => rw [q] at e; cases e
  | some o =>
    rw [q] at e
    have e' : (b, o) = p := Option.some.inj e
    subst e'
    exact ⟨hb, q⟩
theorem Inv.pinned {pins : List (Addr × Obj)} {σ : St} {H : Hp} {s : Shared} {fp : List Addr} (I : Inv X pins σ H s) (hf : ∀ b ∈ fp, FpOk X pins H b) (ho : ∀ b ∈ fp, ∃ o, s.heap.get? b = some o ∧ ∀ v, o.data ≠ .cell v) : Inv X (pins ++ xX fp s.heap) σ H s :=
  I.pins_of fun p hp => (List.mem_append.mp hp).elim (fun z => I.pin p (List.mem_append_right _ z)) fun z => by
    obtain ⟨hb, e⟩ := kH z
    obtain ⟨f0, f1, f2, _⟩ := hf p.1 hb
    obtain ⟨o, e', d⟩ := ho p.1 hb
    rw [e] at e'; cases e'
    exact ⟨e, f0, f1, f2, d⟩
theorem Inv.unpinned {pins pl : List (Addr × Obj)} {σ : St} {H : Hp} {s : Shared} (I : Inv X (pins ++ pl) σ H s) : Inv X pins σ H s := I.pins_of fun p hp => I.pin p (List.mem_append_right _ (List.mem_append_left _ hp))
theorem yo {iter : Expr} {body : List Stmt} {wi : TI} {g : TG} {tb : TS} {pos : Pos} (hp : PassesOwn (model X.prog X.w) X.A X.env X.xe) (hc : X.calm = true) (hi : PI X tg iter wi) (hg : PG X tg g) (hb : PSs X body tb)
    (hs : ∀ x, foldedSetIterable iter X.env x = pure x := by intro _; rfl) : PS X (.For tg iter body [] pos) (VC wi g tb) := by
  intro pins s σ H D I h
  refine wpAny_For (thn (hi pins s σ H _ I h) fun v s1 h1 => thn h1 fun itv s2 h2 => ?_) hs
  obtain ⟨it, fp, tn, J, H2, e, I2, T, st2, f2, W, ⟨m0, w0⟩, turn⟩ := h2
  subst e
  have stat : ∀ {H' : Hp}, (∀ b ∈ fp, H' b = none) → ∀ b ∈ fp, FpOk X pins H' b := fun hn b hb => ⟨hn b hb, (f2 b hb).2⟩
  refine codeAny_forLoop_any (fun n s' => ∃ i σ' H', Inv X pins σ' H' s' ∧ tn i s'.heap ∧ (∀ b ∈ fp, H' b = none) ∧ W i n σ' H') ?_ m0 ⟨0, σ, H2, I2, st2, fun b hb => (f2 b hb).1, w0⟩
  rintro n s3 ⟨i, σ3, H3, I3, st3, fr3, w3⟩
  rcases turn i n σ3 H3 w3 with ⟨stop, qn⟩ | ⟨go, N, hN, step⟩
  · refine wpAny_passesOwn hp (thn (T.done X rfl rfl rfl hc i pins s3 σ3 H3 X.xe I3 (stat fr3) st3 stop) fun r s4 ⟨hr, I4⟩ => ?_)
    subst hr
    exact wpAny_execs_nil ⟨σ3, H3, I4, qn⟩
  · refine wpAny_passesOwn hp (thn (T.item X rfl rfl rfl hc i pins s3 σ3 H3 X.xe I3 (stat fr3) st3 go) fun r s4 ⟨u, hr, h4⟩ => ?_)
    subst hr
    refine wpAny_passesOwn hp (thn h4 fun _ s5 ⟨x, H5, I5, r5, y5, st5, fr5⟩ => ?_)
    have I5' := I5.pinned (stat fr5) (T.obj _ _ st5)
    refine wpAny_passesOwn hp (thn (hg _ s5 σ3 H5 x u _ I5' r5 (step x H5 y5)) fun _ s6 ⟨σ6, H6, I6, q6⟩ => ?_)
    refine wpAny_passesOwn hp (thn (hb _ s6 σ6 H6 _ I6 q6) fun f s7 q7 => ?_)
    have again : ∀ {σ7 : St} {H7 : Hp}, Inv X (pins ++ xX fp s5.heap) σ7 H7 s7 → N σ7 H7 → ∃ m, m < n ∧ ∃ i σ' H', Inv X pins σ' H' s7 ∧ tn i s7.heap ∧ (∀ b ∈ fp, H' b = none) ∧ W i m σ' H' := fun {σ7 H7} I7 n7 => by
      obtain ⟨m', hm, w7⟩ := hN σ7 H7 n7
      refine ⟨m', hm, i + 1, σ7, H7, I7.unpinned, T.keep _ _ _ st5 fun b hb o e => (I7.pin (b, o) (List.mem_append_right _ (List.mem_append_right _ (yN hb e)))).1, fun b hb => ?_, w7⟩
      obtain ⟨o, e, d⟩ := T.obj _ _ st5 b hb
      exact (I7.pin (b, o) (List.mem_append_right _ (List.mem_append_right _ (yN hb e)))).2.1
    cases f with
    | next => obtain ⟨σ7, H7, I7, n7⟩ := q7; exact again I7 n7
    | cont => obtain ⟨σ7, H7, I7, n7⟩ := q7; exact again I7 n7
    | brk => obtain ⟨σ7, H7, I7, q7⟩ := q7; exact ⟨σ7, H7, I7.unpinned, q7⟩
    | ret v => obtain ⟨x7, σ7, H7, I7, r7, q7⟩ := q7; exact ⟨x7, σ7, H7, I7.unpinned, r7, q7⟩
end
theorem ZD {K : PySem.W.Frag} {a : Addr} {xs : List V} {g : TG} {tb : TS} {D : Ends} {σ : St} {H : Hp} (Pv : Nat → St → Hp → Prop) (h0 : Pv 0 σ H) (hl : ∀ i σ H, i ≤ xs.length → Pv i σ H → SqL K H a xs)
    (hs : ∀ i x σ H, xs[i]? = some x → Pv i σ H → g x σ H fun σ2 H2 => tb { D with nx := Pv (i + 1), ct := Pv (i + 1), bk := D.nx } σ2 H2) (hd : ∀ σ H, Pv xs.length σ H → D.nx σ H) :
    ∃ W : Nat → Nat → St → Hp → Prop, (∃ m, W 0 m σ H) ∧ ∀ i m σ H, W i m σ H →
      ((Itl K a).stop i H ∧ D.nx σ H) ∨ ((Itl K a).go i H ∧ ∃ N : St → Hp → Prop, (∀ σ' H', N σ' H' → ∃ m', m' < m ∧ W (i + 1) m' σ' H') ∧ ∀ x H', (Itl K a).yld i H x H' → g x σ H' fun σ2 H2 => tb { D with nx := N, ct := N, bk := D.nx } σ2 H2) := by
  refine ⟨fun i m σ H => m = xs.length - i ∧ i ≤ xs.length ∧ Pv i σ H, ⟨xs.length, by simp, Nat.zero_le _, h0⟩, ?_⟩
  rintro i m σ H ⟨rfl, hi, p⟩
  have q := hl i σ H hi p
  by_cases hlt : i < xs.length
  · refine .inr ⟨⟨xs, xs[i], q, by simp [hlt]⟩, Pv (i + 1), fun σ' H' p' => ⟨xs.length - (i + 1), by omega, rfl, hlt, p'⟩, fun x H' y => ?_⟩
    obtain ⟨e, y⟩ := y
    subst e
    exact hs i x σ _ (y xs q) p
  · have e : i = xs.length := by omega
    subst e
    exact .inl ⟨⟨xs, q, Nat.le_refl _⟩, hd σ H p⟩
theorem Xs {K : PySem.W.Frag} {a : Addr} {xs : List V} {g : TG} {tb : TS} {D : Ends} {σ : St} {H : Hp} (Pv : Nat → St → Hp → Prop) (h0 : Pv 0 σ H) (hl : ∀ i σ H, i ≤ xs.length → Pv i σ H → SqT K H a xs)
    (hs : ∀ i x σ H, xs[i]? = some x → Pv i σ H → g x σ H fun σ2 H2 => tb { D with nx := Pv (i + 1), ct := Pv (i + 1), bk := D.nx } σ2 H2) (hd : ∀ σ H, Pv xs.length σ H → D.nx σ H) :
    ∃ W : Nat → Nat → St → Hp → Prop, (∃ m, W 0 m σ H) ∧ ∀ i m σ H, W i m σ H →
      ((Itt K a).stop i H ∧ D.nx σ H) ∨ ((Itt K a).go i H ∧ ∃ N : St → Hp → Prop, (∀ σ' H', N σ' H' → ∃ m', m' < m ∧ W (i + 1) m' σ' H') ∧ ∀ x H', (Itt K a).yld i H x H' → g x σ H' fun σ2 H2 => tb { D with nx := N, ct := N, bk := D.nx } σ2 H2) := by
  refine ⟨fun i m σ H => m = xs.length - i ∧ i ≤ xs.length ∧ Pv i σ H, ⟨xs.length, by simp, Nat.zero_le _, h0⟩, ?_⟩
  rintro i m σ H ⟨rfl, hi, p⟩
  have q := hl i σ H hi p
  by_cases hlt : i < xs.length
  · refine .inr ⟨⟨xs, xs[i], q, by simp [hlt]⟩, Pv (i + 1), fun σ' H' p' => ⟨xs.length - (i + 1), by omega, rfl, hlt, p'⟩, fun x H' y => ?_⟩
    obtain ⟨e, y⟩ := y
    subst e
    exact hs i x σ _ (y xs q) p
  · have e : i = xs.length := by omega
    subst e
    exact .inl ⟨⟨xs, q, Nat.le_refl _⟩, hd σ H p⟩
theorem kI {lo : Int} {n : Nat} {g : TG} {tb : TS} {D : Ends} {σ : St} {H : Hp} (Pv : Nat → St → Hp → Prop) (h0 : Pv 0 σ H)
    (hs : ∀ i σ H, i < n → Pv i σ H → g (.int (lo + i)) σ H fun σ2 H2 => tb { D with nx := Pv (i + 1), ct := Pv (i + 1), bk := D.nx } σ2 H2) (hd : ∀ σ H, Pv n σ H → D.nx σ H) :
    ∃ W : Nat → Nat → St → Hp → Prop, (∃ m, W 0 m σ H) ∧ ∀ i m σ H, W i m σ H →
      ((Itr lo n).stop i H ∧ D.nx σ H) ∨ ((Itr lo n).go i H ∧ ∃ N : St → Hp → Prop, (∀ σ' H', N σ' H' → ∃ m', m' < m ∧ W (i + 1) m' σ' H') ∧ ∀ x H', (Itr lo n).yld i H x H' → g x σ H' fun σ2 H2 => tb { D with nx := N, ct := N, bk := D.nx } σ2 H2) := by
  refine ⟨fun i m σ H => m = n - i ∧ i ≤ n ∧ Pv i σ H, ⟨n, by simp, Nat.zero_le _, h0⟩, ?_⟩
  rintro i m σ H ⟨rfl, hi, p⟩
  by_cases hlt : i < n
  · refine .inr ⟨hlt, Pv (i + 1), fun σ' H' p' => ⟨n - (i + 1), by omega, rfl, hlt, p'⟩, fun x H' y => ?_⟩
    obtain ⟨e, y⟩ := y
    subst e y
    exact hs i σ _ hlt p
  · have e : i = n := by omega
    subst e
    exact .inl ⟨Nat.le_refl _, hd σ H p⟩
end L2
namespace L2
open PySem PySem.Spec PyProof.Rows
noncomputable abbrev R2 := V → V → Hp → VK → Prop
noncomputable def OpR (X : Cx) (f : Value → Value → Sem Value) (r : R2) : Prop :=
  ∀ (pins : List (Addr × Obj)) (s : Shared) (σ : St) (H : Hp) (x y : V) (v u : Value) (Q : VK), Inv X pins σ H s → RelV x v → RelV y u → r x y H Q →
    wpAny (model X.prog X.w) X.A (f v u) (EP X pins σ Q) X.xe s
noncomputable def zY (X : Cx) (f : Value) (r : List V → Hp → VK → Prop) : Prop :=
  ∀ (pins : List (Addr × Obj)) (s : Shared) (σ : St) (H : Hp) (xs : List V) (us : List Value) (Q : VK), Inv X pins σ H s → Vals xs us → r xs H Q →
    wpAny (model X.prog X.w) X.A (call f us) (EP X pins σ Q) X.xe s
noncomputable def tOp (r : R2) (ta tb : TE) : TE := fun σ H Q => ta σ H fun x H1 => tb σ H1 fun y H2 => r x y H2 Q
noncomputable def rI (C : Int → Int → Prop) (g : Int → Int → V) : R2 := fun x y H Q => ∃ i j, x = .int i ∧ y = .int j ∧ C i j ∧ Q (g i j) H
noncomputable def rI0 (g : Int → Int → V) : R2 := fun x y H Q => ∃ i j, x = .int i ∧ y = .int j ∧ Q (g i j) H
section
variable {X : Cx} {a b c : Expr} {ta tb tc : TE} {pos : Pos}
theorem ZE (ha : PE X a ta) (hb : PE X b tb) {pins : List (Addr × Obj)} {s : Shared} {σ : St} {H : Hp} {R : V → V → Hp → Prop} (I : Inv X pins σ H s)
    (h : ta σ H fun x H1 => tb σ H1 fun y H2 => R x y H2) {Q : Value → Shared → Prop} {f : Value → Value → Sem Value}
    (hf : ∀ v u s2 x y H2, Inv X pins σ H2 s2 → RelV x v → RelV y u → R x y H2 → wpAny (model X.prog X.w) X.A (f v u) Q X.xe s2) :
    wpAny (model X.prog X.w) X.A (eval a X.env) (fun v s₁ => wpAny (model X.prog X.w) X.A (eval b X.env) (fun u s₂ => wpAny (model X.prog X.w) X.A (f v u) Q X.xe s₂) X.xe s₁) X.xe s := by
  refine thn (ha pins s σ H _ I h) fun v s1 ⟨x, H1, I1, r1, q1⟩ => ?_
  refine thn (hb pins s1 σ H1 _ I1 q1) fun u s2 ⟨y, H2, I2, r2, q2⟩ => ?_
  exact hf v u s2 x y H2 I2 r1 r2 q2
theorem ze {op : Operator} {r : R2} (ho : OpR X (binaryOp op) r) (ha : PE X a ta) (hb : PE X b tb) : PE X (.BinOp a op b pos) (tOp r ta tb) := by
  intro pins s σ H Q I h
  exact wpAny_BinOp (ZE ha hb I h fun v u s2 x y H2 I2 rx ry q => ho pins s2 σ H2 x y v u Q I2 rx ry q)
theorem opI {f : Value → Value → Sem Value} {C : Int → Int → Prop} {g : Int → Int → Int}
    (rule : ∀ (i j : Int) (t u : Tok) (s : Shared) (Q : Value → Shared → Prop) (E : Value → Shared → Prop), C i j → Q (.int (g i j) s.toks) { s with toks := s.toks + 1 } → wpAny (model X.prog X.w) X.A (f (.int i t) (.int j u)) Q E s) :
    OpR X f (rI C fun i j => .int (g i j)) := by
  intro pins s σ H x y v u Q I rx ry h
  obtain ⟨i, j, rfl, rfl, hc, q⟩ := h
  obtain ⟨t, rfl⟩ := rx
  obtain ⟨t', rfl⟩ := ry
  exact rule i j t t' s _ _ hc ⟨.int (g i j), H, I.tok _, ⟨_, rfl⟩, q⟩
theorem VD {f : Value → Value → Sem Value} {g : Int → Int → Int}
    (rule : ∀ (i j : Int) (t u : Tok) (s : Shared) (Q : Value → Shared → Prop) (E : Value → Shared → Prop), Q (.int (g i j) s.toks) { s with toks := s.toks + 1 } → wpAny (model X.prog X.w) X.A (f (.int i t) (.int j u)) Q E s) :
    OpR X f (rI0 fun i j => .int (g i j)) := by
  intro pins s σ H x y v u Q I rx ry h
  obtain ⟨i, j, rfl, rfl, q⟩ := h
  obtain ⟨t, rfl⟩ := rx
  obtain ⟨t', rfl⟩ := ry
  exact rule i j t t' s _ _ ⟨.int (g i j), H, I.tok _, ⟨_, rfl⟩, q⟩
theorem Qv {f : Value → Value → Sem Value} {g : Int → Int → Bool}
    (rule : ∀ (i j : Int) (t u : Tok) (s : Shared) (Q : Value → Shared → Prop) (E : Value → Shared → Prop), Q (.bool (g i j)) s → wpAny (model X.prog X.w) X.A (f (.int i t) (.int j u)) Q E s) :
    OpR X f (rI0 fun i j => .bl (g i j)) := by
  intro pins s σ H x y v u Q I rx ry h
  obtain ⟨i, j, rfl, rfl, q⟩ := h
  obtain ⟨t, rfl⟩ := rx
  obtain ⟨t', rfl⟩ := ry
  exact rule i j t t' s _ _ ⟨.bl (g i j), H, I, rfl, q⟩
noncomputable def VE (i j : Int) : Prop := 0 < j ∧ j < 1073741824
noncomputable def uk (i j : Int) : Prop := (-(2 ^ 64) < i ∧ i < 2 ^ 64) ∨ (-(2 ^ 64) < j ∧ j < 2 ^ 64)
theorem uk.ok {i j : Int} (h : uk i j) : IntMulOk i j := by
  rcases h with ⟨h1, h2⟩ | ⟨h1, h2⟩
  · exact .of_left (intBits_le_64 h1 h2)
  · exact .of_right (intBits_le_64 h1 h2)
theorem zu : OpR X (binaryOp .Add) (rI0 fun i j => .int (i + j)) := VD fun _ _ _ _ _ _ _ q => add_int q
theorem u6 : OpR X (binaryOp .Sub) (rI0 fun i j => .int (i - j)) := VD fun _ _ _ _ _ _ _ q => sub_int q
theorem zC : OpR X (binaryOp .FloorDiv) (rI VE fun i j => .int (i / j)) := opI fun i j _ _ _ _ _ hc q => by
  have h1 : (0 : Int) < j := hc.1
  have h2 : j < 1073741824 := hc.2
  exact floordiv_int (by omega) (by rw [Int.fdiv_eq_ediv_of_nonneg i (by omega)]; exact q) (.inl (PyProof.noPylong_small (by omega)))
theorem zq : OpR X (binaryOp .Mod) (rI (fun _ j => 0 < j) fun i j => .int (i % j)) := opI fun i j _ _ _ _ _ hc q => by
  have h1 : (0 : Int) < j := hc
  exact mod_int' (by omega) (by rw [Int.fmod_eq_emod_of_nonneg i (by omega)]; exact q)
end
noncomputable def u7 : V → V → Bool
  | .non, .non => true | .non, .int _ => true | .int _, .non => true | .non, .bl _ => true | .bl _, .non => true | .non, .str _ => true | .str _, .non => true
  | .int _, .int _ => true | .bl _, .bl _ => true | .str _, .str _ => true | .byt _, .byt _ => true
  | .int _, .str _ => true | .str _, .int _ => true | .bl _, .str _ => true | .str _, .bl _ => true
  | _, _ => false
noncomputable def rEq : R2 := fun x y H Q => u7 x y = true ∧ Q (.bl (decide (x = y))) H
theorem Xt {i j : Int} : decide (V.int i = V.int j) = (i == j) := by
  rw [Bool.eq_iff_iff]
  simp
theorem VF {i j : Bool} : decide (V.bl i = V.bl j) = (i == j) := by
  rw [Bool.eq_iff_iff]
  simp
theorem Xu {i j : Str} : decide (V.str i = V.str j) = (i == j) := by
  rw [Bool.eq_iff_iff]
  simp
theorem Xv {i j : Array UInt8} : decide (V.byt i = V.byt j) = (i.toList == j.toList) := by
  rw [Bool.eq_iff_iff]
  cases i
  cases j
  simp
section
variable {X : Cx} {a b c : Expr} {ta tb tc : TE} {pos : Pos}
theorem zV {pins : List (Addr × Obj)} {σ : St} {H : Hp} {s : Shared} {Q : VK} {k k' : Bool} (I : Inv X pins σ H s) (q : Q (.bl k) H) (e : k = k') : EP X pins σ Q (.bool k') s := by
  subst e
  exact ⟨.bl k, H, I, rfl, q⟩
theorem yO : OpR X (compareOp .Eq) rEq := by
  intro pins s σ H x y v u Q I rx ry h
  obtain ⟨hs, q⟩ := h
  cases x with
  | non =>
    cases rx
    cases y with
    | non => cases ry; exact PySem.EqNone.eq_none_none (zV I q (by simp))
    | bl j => cases ry; exact PySem.EqNone.eq_none_bool (zV I q (by simp))
    | int j => obtain ⟨t', rfl⟩ := ry; exact PySem.EqNone.eq_none_int (zV I q (by simp))
    | str j => obtain ⟨t', rfl⟩ := ry; exact PySem.EqNone.eq_none_str (zV I q (by simp))
    | _ => exact absurd (show false = true from hs) Bool.false_ne_true
  | bl i =>
    cases rx
    cases y with
    | non => cases ry; exact PySem.EqNone.eq_bool_none (zV I q (by simp))
    | bl j => cases ry; exact eq_bool (zV I q VF)
    | str j => obtain ⟨t', rfl⟩ := ry; exact PySem.EqMixed.eq_bool_str (zV I q (by simp))
    | _ => exact absurd (show false = true from hs) Bool.false_ne_true
  | int i =>
    obtain ⟨t, rfl⟩ := rx
    cases y with
    | non => cases ry; exact PySem.EqNone.eq_int_none (zV I q (by simp))
    | int j => obtain ⟨t', rfl⟩ := ry; exact eq_int (zV I q Xt)
    | str j => obtain ⟨t', rfl⟩ := ry; exact PySem.EqMixed.eq_int_str (zV I q (by simp))
    | _ => exact absurd (show false = true from hs) Bool.false_ne_true
  | str i =>
    obtain ⟨t, rfl⟩ := rx
    cases y with
    | non => cases ry; exact PySem.EqNone.eq_str_none (zV I q (by simp))
    | bl j => cases ry; exact PySem.EqMixed.eq_str_bool (zV I q (by simp))
    | int j => obtain ⟨t', rfl⟩ := ry; exact PySem.EqMixed.eq_str_int (zV I q (by simp))
    | str j => obtain ⟨t', rfl⟩ := ry; exact eq_str (zV I q Xu)
    | _ => exact absurd (show false = true from hs) Bool.false_ne_true
  | byt i =>
    obtain ⟨t, rfl⟩ := rx
    cases y with
    | byt j => obtain ⟨t', rfl⟩ := ry; exact PySem.W.eq_bytes (zV I q Xv)
    | _ => exact absurd (show false = true from hs) Bool.false_ne_true
  | _ => cases y <;> exact absurd (show false = true from hs) Bool.false_ne_true
theorem YD : OpR X (compareOp .Lt) (rI0 fun i j => .bl (decide (i < j))) := Qv fun _ _ _ _ _ _ _ q => lt_int q
theorem OpR.or {f : Value → Value → Sem Value} {r r' : R2} (h : OpR X f r) (h' : OpR X f r') : OpR X f (fun x y H Q => r x y H Q ∨ r' x y H Q) := by
  intro pins s σ H x y v u Q I rx ry q
  rcases q with q | q
  · exact h pins s σ H x y v u Q I rx ry q
  · exact h' pins s σ H x y v u Q I rx ry q
theorem zN (b : Expr) {op : CmpOp} (h : op ≠ .In := by decide) (h2 : op ≠ .NotIn := by decide) : behindInMarks op b = false := by
  have e1 : (op == CmpOp.In) = false := by cases op <;> first | rfl | exact absurd rfl h
  have e2 : (op == CmpOp.NotIn) = false := by cases op <;> first | rfl | exact absurd rfl h2
  cases b <;> simp [behindInMarks, e1, e2]
theorem je {op : CmpOp} {r : R2} (ho : OpR X (compareOp op) r) (ha : PE X a ta) (hb : PE X b tb) (hm : behindInMarks op b = false) : PE X (.Compare a [op] [b] pos) (tOp r ta tb) := by
  intro pins s σ H Q I h
  exact wpAny_Compare1 (ZE ha hb I h fun v u s2 x y H2 I2 rx ry q => ho pins s2 σ H2 x y v u Q I2 rx ry q) hm
noncomputable def YE (t : TE) : TT := fun σ H Q => t σ H fun x H' => ∃ k, x = .bl k ∧ Q k H'
theorem zJ {op : CmpOp} {r : R2} (ho : OpR X (compareOp op) r) (ha : PE X a ta) (hb : PE X b tb) (hm : behindInMarks op b = false) : PT X (.Compare a [op] [b] pos) (YE (tOp r ta tb)) := by
  intro pins s σ H Q I h
  refine wpAny_isTrue_Compare1 (thn (ha pins s σ H _ I h) fun v s1 ⟨x, H1, I1, r1, q1⟩ => thn (hb pins s1 σ H1 _ I1 q1) fun u s2 ⟨y, H2, I2, r2, q2⟩ =>
    thn (ho pins s2 σ H2 x y v u _ I2 r1 r2 q2) fun c s3 ⟨z, H3, I3, r3, k, e, q3⟩ => ?_) hm
  subst e
  cases r3
  exact wpAny_truthy_bool ⟨H3, I3, q3⟩
theorem xq : (sizeLine : Nat) < 2 ^ 63 := by rw [sizeLine_eq]; decide
theorem jF : OpR X (binaryOp .Add) (fun x y H Q => ∃ i j, x = .str i ∧ y = .str j ∧ i.length + j.length ≤ sizeLine ∧ Q (.str (i ++ j)) H) := by
  intro pins s σ H x y v u Q I rx ry h
  obtain ⟨i, j, rfl, rfl, hz, q⟩ := h
  obtain ⟨t, rfl⟩ := rx
  obtain ⟨t', rfl⟩ := ry
  exact add_str (fun t' tk => ⟨.str (i ++ j), H, I.tok _, ⟨_, rfl⟩, q⟩) hz
theorem jG {x : V} {us : List Value} (r : Vals [x] us) : ∃ u, us = [u] ∧ RelV x u := by
  cases r with
  | cons r1 r2 => cases r2; exact ⟨_, rfl, r1⟩
end
end L2
namespace L2
open PySem PySem.Spec PyProof.Rows
structure ObjM (h : Heap) (x dx C : Addr) (mA : Str → Option Value) : Prop where
  obj : h.get? x = some (PySem.W.instObj C dx)
  ns : h.Ns1 dx mA
  ne : dx ≠ x
theorem kJ {h : Heap} {dx : Addr} {mA : Str → Option Value} (n : h.Ns1 dx mA) : ∃ od, h.get? dx = some od ∧ ∀ name, PySem.W.lookIn name od = some (mA name) := by
  obtain ⟨o, es, ep, ho, hd, hk, _, hm⟩ := n
  refine ⟨o, ho, fun name => ?_⟩
  have e := hm name
  unfold nsFind findBy at e
  rw [← Array.find?_toList] at e
  unfold PySem.W.lookIn
  rw [hd]
  dsimp only
  split
  · rename_i y q
    rw [q] at e
    exact congrArg some e
  · rename_i q
    rw [q] at e
    have a : es.toList.any (·.refKey) = false := by
      rw [List.any_eq_false]
      intro y hy
      obtain ⟨z, t, hkey⟩ := hk y (Array.mem_toList_iff.mp hy)
      simp [DictEntry.refKey, hkey]
    have a' : ¬ es.toList.any (·.refKey) = true := by rw [a]; exact Bool.false_ne_true
    rw [if_neg a']
    exact congrArg some e
theorem ObjM.look {h : Heap} {x dx C : Addr} {mA : Str → Option Value} (I : ObjM h x dx C mA) : ∃ od, PySem.W.InstAt h x (PySem.W.instObj C dx) C (some od) ∧ ∀ name, PySem.W.lookIn name od = some (mA name) :=
  let ⟨od, ho, hl⟩ := kJ I.ns
  ⟨od, ⟨I.obj, rfl, rfl, ho⟩, hl⟩
section
variable {prog : Program} {w : World} {A : Around} {E : Value → Shared → Prop} {s : Shared} {K : PySem.W.Frag} {x dx C f : Addr} {mA : Str → Option Value} {name : Str} {v : Value}
end
section
variable {P : Program} {w : World} {H H' : Hp} {h h' : Heap} {a C dx : Addr} {fs fs' : List (Str × V)}
theorem Xw (hok : HOk P w H h) (e : H a = some (.ins C dx fs)) : ∃ mA, ObjM h a dx C mA ∧ (∀ f, xA (fs.lookup f) (mA f)) ∧ PySem.Within mA (fs.map (·.1)) ∧ fs.length ≤ 1000 ∧ H dx = some (.own a) := by
  obtain ⟨d, z, ne, ob, mA, n, r, q⟩ := (show zB P w H h a (.ins C dx fs) from hok a _ e)
  exact ⟨mA, ⟨ob, n, ne⟩, r, q, z, d⟩
end
structure Cls (K : PySem.W.Frag) (C : Addr) : Prop where
  pg : PySem.W.plainGet K C Str.empty = true
  hd : PySem.W.hasDictIn K C = true
  po : PySem.W.plainOver K C = true
  sa : PySem.W.findIn K (.ref C) "__setattr__" = some (some (.builtin "object.__setattr__"))
theorem Cls.get {K : PySem.W.Frag} {C : Addr} (c : Cls K C) (f : Str) : PySem.W.plainGet K C f = true := c.pg
noncomputable def kK (K : PySem.W.Frag) (C : Addr) (f : Str) : Prop := PySem.W.findIn K (.ref C) f = some none
section
variable {X : Cx} {pins : List (Addr × Obj)} {σ : St} {H : Hp} {s : Shared} {a C dx : Addr} {fs : List (Str × V)} {f : Str} {v : V} {A : Around} {E : Value → Shared → Prop}
theorem Inv.made (I : Inv X pins σ H s) : Inv X pins σ (upd (upd H s.heap.objs.size (.own (s.heap.objs.size + 1))) (s.heap.objs.size + 1) (.ins C s.heap.objs.size []))
    { s with heap := (s.heap.push PySem.W.emptyDict).push (PySem.W.instObj C s.heap.objs.size) } := by
  have e1 : (s.heap.push PySem.W.emptyDict).get? s.heap.objs.size = some PySem.W.emptyDict := Heap.get?_push_size s.heap rfl
  have e2 : ((s.heap.push PySem.W.emptyDict).push (PySem.W.instObj C s.heap.objs.size)).get? (s.heap.objs.size + 1) = some (PySem.W.instObj C s.heap.objs.size) := by
    have := Heap.get?_push_size (s.heap.push PySem.W.emptyDict) (o := PySem.W.instObj C s.heap.objs.size) rfl
    rwa [Heap.size_push] at this
  have e3 : (s.heap.push PySem.W.emptyDict).Ns s.heap.objs.size (fun _ => none) := ⟨PySem.W.emptyDict, #[], _, e1, rfl, (fun e he => absurd he (by simp)), fun _ => rfl⟩
  have I1 := I.laid (a := s.heap.objs.size) (o := .own (s.heap.objs.size + 1)) (h' := s.heap.push PySem.W.emptyDict) (t' := s.toks) (fun b u q => Heap.get?_push_of_some _ q) (Nat.le_refl _) ⟨_, e1⟩
  refine I1.laid (a := s.heap.objs.size + 1) (o := .ins C s.heap.objs.size []) (t' := s.toks) (fun b u q => Heap.get?_push_of_some _ q) (Nat.le_of_eq (Heap.size_push _ _)) ?_
  have ne : s.heap.objs.size ≠ s.heap.objs.size + 1 := Nat.ne_of_lt (Nat.lt_succ_self _)
  refine ⟨by rw [zb ne, zh], Nat.zero_le _, ne, e2, fun _ => none, (Heap.Ns1.of_empty e3).at fun o q => Heap.get?_push_of_some _ q, fun _ => True.intro, fun y hy => absurd rfl hy⟩
end
section
variable {X : Cx} {o e value : Expr} {f : Str} {pos pos' tpos : Pos} {ta tv : TE}
end
section
variable {X : Cx} {pins : List (Addr × Obj)} {σ : St} {H : Hp} {s : Shared} {A : Around} {E : Value → Shared → Prop} {Q : Value → Shared → Prop} {c : Value} {b : Bool}
inductive TyOf (K : PySem.W.Frag) (H : Hp) : V → Value → Prop where
  | non : TyOf K H .non (.type "NoneType")
  | bl (x : Bool) : TyOf K H (.bl x) (.type "bool")
  | int (i : Int) : TyOf K H (.int i) (.type "int")
  | str (x : Str) : TyOf K H (.str x) (.type "str")
  | flt (x : UInt64) : TyOf K H (.flt x) (.type "float")
  | lst {a : Addr} {xs : List V} (e : H a = some (.lst xs)) : TyOf K H (.ref a) (.type "list")
  | frz {a : Addr} {o : Obj} {xs : List V} (e : H a = some (.frz o (.lst xs))) : TyOf K H (.ref a) (.type "list")
  | tup {a : Addr} {xs : List V} (e : H a = some (.tup xs)) : TyOf K H (.ref a) (.type "tuple")
  | dK {a : Addr} {kvs : List (Key × V)} (e : H a = some (.dK kvs)) : TyOf K H (.ref a) (.type "dict")
  | dT {a : Addr} {kvs : List (List Key × V)} (e : H a = some (.dT kvs)) : TyOf K H (.ref a) (.type "dict")
  | ins {a C dx : Addr} {fs : List (Str × V)} (e : H a = some (.ins C dx fs)) (cl : Cls K C) (ha : PySem.W.findIn K (.ref C) "__class__" = some (some (.builtin "object.__class__")))
      (hn : PySem.W.specialIn K (.builtin "object.__class__") "__get__" = some (some (.builtin "getset_descriptor.__get__"))) (htk : PySem.W.takesIn K (.builtin "object.__class__") = some true)
      (hm : PySem.W.mroIn K C (.type "object") = some true) : TyOf K H (.ref a) (.ref C)
theorem kL {x : V} {u t : Value} (I : Inv X pins σ H s) (rx : RelV x u) (ty : TyOf X.K H x t) (e : PySem.W.kitOne X.K t c = some b) (h : ∀ tk, Q (.bool b) { s with toks := tk }) :
    wpAny (model X.prog X.w) A (call (.builtin "isinstance") [u, c]) Q E s := by
  cases ty with
  | non => cases (show u = Value.none from rx); exact PySem.W.kia_one PySem.W.kitx_none I.kIn True.intro e (fun z => nomatch z) h
  | bl y => cases (show u = Value.bool y from rx); exact PySem.W.kia_one PySem.W.kitx_bool I.kIn True.intro e (fun z => nomatch z) h
  | int i => obtain ⟨t, q⟩ := (show ∃ t, u = Value.int i t from rx); cases q; exact PySem.W.kia_one PySem.W.kitx_int I.kIn True.intro e (fun z => nomatch z) h
  | str y => obtain ⟨t, q⟩ := (show ∃ t, u = Value.str y t from rx); cases q; exact PySem.W.kia_one PySem.W.kitx_str I.kIn True.intro e (fun z => nomatch z) h
  | flt y => obtain ⟨t, q⟩ := (show ∃ t, u = Value.float y t from rx); cases q; exact PySem.W.kia_one PySem.W.kitx_float I.kIn True.intro e (fun z => nomatch z) h
  | @lst a xs ea =>
    cases (show u = Value.ref a from rx)
    obtain ⟨_, _, n, _, h1⟩ := (show zB X.prog X.w H s.heap a (.lst xs) from I.hok a _ ea)
    exact PySem.W.kia_one PySem.W.kitx_list I.kIn ⟨_, h1, rfl⟩ e (fun z => nomatch z) h
  | @frz a ob xs ea =>
    cases (show u = Value.ref a from rx)
    obtain ⟨_, _, _, n, _, h1⟩ := (show zB X.prog X.w H s.heap a (.frz ob (.lst xs)) from I.hok a _ ea)
    exact PySem.W.kia_one PySem.W.kitx_list I.kIn ⟨_, h1, rfl⟩ e (fun z => nomatch z) h
  | @tup a xs ea =>
    cases (show u = Value.ref a from rx)
    obtain ⟨_, _, _, p⟩ := (show zB X.prog X.w H s.heap a (.tup xs) from I.hok a _ ea)
    obtain ⟨o, h1, h2, _⟩ := p
    exact PySem.W.kia_one PySem.W.kitx_tuple I.kIn ⟨o, h1, h2⟩ e (fun z => nomatch z) h
  | @dK a kvs ea =>
    cases (show u = Value.ref a from rx)
    obtain ⟨_, _, vs, _, p⟩ := (show zB X.prog X.w H s.heap a (.dK kvs) from I.hok a _ ea)
    obtain ⟨o, es, ep, h1, h2, _⟩ := p
    exact PySem.W.kia_one PySem.W.kitx_dict I.kIn ⟨o, h1, h2.1⟩ e (fun z => nomatch z) h
  | @dT a kvs ea =>
    cases (show u = Value.ref a from rx)
    obtain ⟨_, _, xs, _, o, es, ep, h1, h2, _⟩ := (show zB X.prog X.w H s.heap a (.dT kvs) from I.hok a _ ea)
    exact PySem.W.kia_one PySem.W.kitx_dict I.kIn ⟨o, h1, h2.1⟩ e (fun z => nomatch z) h
  | @ins a C dx fs ea cl ha hn htk hm =>
    cases (show u = Value.ref a from rx)
    obtain ⟨mA, O, _⟩ := Xw I.hok ea
    obtain ⟨od, J, _⟩ := O.look
    exact PySem.W.kia_one (PySem.W.kitx_own (cl.get _) cl.hd ha hn htk hm) I.kIn J e (fun z => nomatch z) h
end
end L2
namespace L2
open PySem PySem.Spec PyProof.Rows
structure Room (k : Nat) (A : Around) : Prop where
  hd : A.handled = none
  dp : A.depth + 3 * k + 5 < recursionLimit
  un : A.units + 16 * k + 200 < cLine
  gd : A.guards = some []
theorem Room.mono {j k : Nat} {A : Around} (r : Room k A) (h : j ≤ k) : Room j A := ⟨r.hd, by have := r.dp; omega, by have := r.un; omega, r.gd⟩
theorem Room.deeper {k : Nat} {A : Around} (r : Room (k + 1) A) (env : Env) : Room k (A.deeper env) :=
  ⟨r.hd, by have := r.dp; show A.depth + 1 + 3 * k + 5 < _; omega, by have := r.un; show A.units + 3 + 16 * k + 200 < _; omega, r.gd⟩
theorem Room.in1 {k : Nat} {A : Around} (r : Room (k + 1) A) : Room k A.in1 :=
  ⟨r.hd, by have := r.dp; show A.depth + 3 * k + 5 < _; omega, by have := r.un; show A.units + 1 + 16 * k + 200 < _; omega, r.gd⟩
theorem Room.depth {k : Nat} {A : Around} (r : Room k A) : A.depth < recursionLimit := by have := r.dp; omega
theorem Room.units {k : Nat} {A : Around} (r : Room k A) : A.units + 64 < cLine := by have := r.un; omega
noncomputable def u8 : TA := fun _ H Q => Q [] H
noncomputable def xC (ta : TE) (tr : TA) : TA := fun σ H Q => ta σ H fun x H1 => tr σ H1 fun xs H2 => Q (x :: xs) H2
section
variable {X : Cx} {e : Expr} {es : List Expr} {te : TE} {t : TA} {pos : Pos}
theorem VG : PA X [] u8 := fun _ _ _ _ H Q I h => Calls.spliced_nil ⟨[], H, I, .nil, h⟩
theorem Xx (ha : PE X e te) (hr : PA X es t) (hs : starEach (e :: es) X.env = (false, eval e X.env) :: starEach es X.env := by rfl) : PA X (e :: es) (xC te t) := by
  intro pos pins s σ H Q I h
  rw [hs]
  show wpAny _ _ (spliced ((false, eval e X.env) :: backTo pos (starEach es X.env))) _ _ s
  refine Calls.spliced_cons (thn (ha pins s σ H _ I h) fun u s1 ⟨x, H1, I1, r1, q1⟩ => ?_)
  exact thn (hr pos pins s1 σ H1 _ I1 q1) fun us s2 ⟨xs, H2, I2, r2, q2⟩ => ⟨x :: xs, H2, I2, .cons r1 r2, q2⟩
noncomputable def u9 (t : TA) : TE := fun σ H Q => t σ H fun xs H1 => xs.length ≤ sizeLine ∧ ∀ p, H1 p = none → Q (.ref p) (upd H1 p (.tup xs))
noncomputable def jH (t : TA) : TE := fun σ H Q => t σ H fun xs H1 => xs.length ≤ sizeLine ∧ ∀ p, H1 p = none → Q (.ref p) (upd H1 p (.lst xs))
theorem qa {x1} (h : PA X es t) : PE X (.Tuple es x1 pos) (u9 t) := by
  intro pins s σ H Q I hq
  refine wpAny_Tuple_spliced (thn (h pos pins s σ H _ I hq) fun us s1 ⟨xs, H1, I1, r, z, q⟩ => ⟨by rw [← r.length]; exact z, ?_⟩)
  have hf : H1 s1.heap.objs.size = none := I1.hok.fresh (Nat.le_refl _)
  refine ⟨.ref s1.heap.objs.size, upd H1 s1.heap.objs.size (.tup xs), I1.laid (t' := s1.toks) (fun b u e => Heap.get?_push_of_some _ e) (Nat.le_refl _) ?_, rfl, q _ hf⟩
  exact ⟨z, us, r, ⟨_, Heap.get?_push_size _ rfl, rfl, _, rfl⟩⟩
theorem kM (h : PA X es t) : PE X (.List es pos) (jH t) := by
  intro pins s σ H Q I hq
  refine wpAny_List_spliced (thn (h pos pins s σ H _ I hq) fun us s1 ⟨xs, H1, I1, r, z, q⟩ => ⟨by rw [← r.length]; exact z, ?_⟩)
  have hf : H1 s1.heap.objs.size = none := I1.hok.fresh (Nat.le_refl _)
  refine ⟨.ref s1.heap.objs.size, upd H1 s1.heap.objs.size (.lst xs), I1.laid (t' := s1.toks) (fun b u e => Heap.get?_push_of_some _ e) (Nat.le_refl _) ?_, rfl, q _ hf⟩
  exact ⟨z, us, 0, r, Heap.get?_push_size _ rfl⟩
end
noncomputable abbrev Sp := List V → Hp → VK → XK → Prop
noncomputable abbrev CXT := List Env → Hp → Shared → XK → Value → Shared → Prop
structure Env0 (P : Program) (w : World) (K : PySem.W.Frag) (mg : Str → Option Value) (base : Heap) (A : Around) (outer : List Env) (s : Shared) (H : Hp) : Prop where
  frames : A.frames = some outer
  mod : Mod K mg base
  bs : ∀ b o, base.get? b = some o → s.heap.get? b = some o ∧ H b = none
  bsz : base.objs.size ≤ s.heap.objs.size
  funs : s.heap.FunFrames base outer
  frf : ∀ b ∈ frs outer, H b = none
  hok : HOk P w H s.heap
  bare : AllBare s.gens
noncomputable def CE (outer : List Env) (P : Program) (w : World) (H : Hp) (s : Shared) (Q : VK) (u : Value) (s' : Shared) : Prop :=
  ∃ v H', s'.os = s.os ∧ AllBare s'.gens ∧ Un (frs outer) [] H H' s.heap s'.heap ∧ HOk P w H' s'.heap ∧ RelV v u ∧ Q v H'
noncomputable def CR (CX : CXT) (outer : List Env) (P : Program) (w : World) (H : Hp) (s : Shared) (Q : VK) (E : XK) (r : Result) (s' : Shared) : Prop :=
  match r with
  | .ok (.ret u) => CE outer P w H s Q u s'
  | .ok _ => False
  | .error e => CX outer H s E e s'
structure FnOk (P : Program) (w : World) (K : PySem.W.Frag) (mg : Str → Option Value) (base : Heap) (CX : CXT) (k : Nat) (f : Addr) (fd : FuncData) (ps : List Str) (sp : Sp) : Prop where
  len : ∀ vs H Q E, sp vs H Q E → vs.length = ps.length
  run : ∀ (A : Around) (outer : List Env) (s : Shared) (H : Hp) (args : Args) (us : List Value) (vs : List V) (Q : VK) (E : XK), Room k A → Env0 P w K mg base A outer s H → BindsTo s fd args (ps.zip us) → Vals vs us → sp vs H Q E →
    codeAny (model P w) A (.call (.ref f) args) (CR CX outer P w H s Q E) s
theorem FnOk.mono {P : Program} {w : World} {K : PySem.W.Frag} {mg : Str → Option Value} {base : Heap} {CX : CXT} {j k : Nat} {f : Addr} {fd : FuncData} {ps : List Str} {sp : Sp} (F : FnOk P w K mg base CX j f fd ps sp) (h : j ≤ k) :
    FnOk P w K mg base CX k f fd ps sp := ⟨F.len, fun A outer s H args us vs Q E hr => F.run A outer s H args us vs Q E (hr.mono h)⟩
theorem FnOk.imp {P : Program} {w : World} {K : PySem.W.Frag} {mg : Str → Option Value} {base : Heap} {CX : CXT} {k : Nat} {f : Addr} {fd : FuncData} {ps : List Str} {sp sp' : Sp} (F : FnOk P w K mg base CX k f fd ps sp)
    (h : ∀ vs H Q E, sp' vs H Q E → sp vs H Q E) : FnOk P w K mg base CX k f fd ps sp' :=
  ⟨fun vs H Q E q => F.len vs H Q E (h _ _ _ _ q), fun A outer s H args us vs Q E hr he hb hv hs => F.run A outer s H args us vs Q E hr he hb hv (h _ _ _ _ hs)⟩
theorem Env0.in1 {P : Program} {w : World} {K : PySem.W.Frag} {mg : Str → Option Value} {base : Heap} {A : Around} {outer : List Env} {s : Shared} {H : Hp} (e : Env0 P w K mg base A outer s H) :
    Env0 P w K mg base A.in1 outer s H := ⟨e.frames, e.mod, e.bs, e.bsz, e.funs, e.frf, e.hok, e.bare⟩
section
variable {X : Cx} {pins : List (Addr × Obj)} {σ : St} {H : Hp} {s s' : Shared}
theorem Inv.env0 (I : Inv X pins σ H s) : Env0 X.prog X.w X.K X.mg X.base X.A X.stack s H :=
  ⟨I.ok.frames, I.ok.mod, I.bs, Nat.le_trans I.ok.bsz I.sz, I.stack, I.stkFree, I.hok, I.bare⟩
theorem Inv.after {Q : VK} {u : Value} (I : Inv X pins σ H s) (h : CE X.stack X.prog X.w H s Q u s') : EP X pins σ Q u s' := by
  obtain ⟨v, H', os, bare, un, hok, r, q⟩ := h
  obtain ⟨hh, g, d, t, os'⟩ := s'
  obtain rfl : os' = s.os := os
  exact ⟨v, H', I.call (h' := hh) (g' := g) (d' := d) (t' := t) (ch := []) un hok bare (fun b z => absurd z (by simp)), r, q⟩
end
noncomputable def vQ (sp : Sp) (dvs : List V) (E : XK) (t : TA) : TE := fun σ H Q => t σ H fun vs H1 => sp (vs ++ dvs) H1 Q E
noncomputable def Binds (K : PySem.W.Frag) (fd : FuncData) (ps : List Str) (ds : List Value) : Prop :=
  ∀ (s : Shared) (us : List Value), K.In s.heap → (us ++ ds).length = ps.length → BindsTo s fd ⟨us, []⟩ (ps.zip (us ++ ds))
theorem Binds.all {K : PySem.W.Frag} {fd : FuncData} {ps : List Str} (h : ∀ us : List Value, us.length = ps.length → bindArgs fd ⟨us, []⟩ = pure (ps.zip us)) : Binds K fd ps [] := fun s us _ hl => by
  rw [List.append_nil] at hl ⊢
  exact .of_eq (h us hl)
noncomputable def vR (CX : CXT) (X : Cx) (E : XK) : Prop := ∀ (pins : List (Addr × Obj)) (σ : St) (H : Hp) (s : Shared) (e : Value) (s' : Shared), Inv X pins σ H s → CX X.stack H s E e s' → X.xe e s'
section
variable {X : Cx} {CX : CXT} {k : Nat} {f C : Addr} {fd : FuncData} {ps : List Str} {sp : Sp} {dvs : List V} {ds : List Value} {E : XK} {x m : Str} {p pos apos : Pos} {e o : Expr} {es : List Expr} {ta : TE} {t : TA}
theorem VH {pins : List (Addr × Obj)} {σ : St} {H : Hp} {s : Shared} {Q : VK} {us : List Value} {vs : List V} (F : FnOk X.prog X.w X.K X.mg X.base CX k f fd ps sp) (hr : Room k X.A) (hb : Binds X.K fd ps ds) (hd : Vals dvs ds) (hx : vR CX X E)
    (I : Inv X pins σ H s) (r : Vals vs us) (h : sp (vs ++ dvs) H Q E) : wpAny (model X.prog X.w) X.A (call (.ref f) us) (EP X pins σ Q) X.xe s := by
  have r2 : Vals (vs ++ dvs) (us ++ ds) := r.append hd
  have hl : (us ++ ds).length = ps.length := by rw [← r2.length]; exact F.len _ _ _ _ h
  refine wpAny_call (codeAny_mono (F.run X.A X.stack s H ⟨us, []⟩ (us ++ ds) (vs ++ dvs) Q E hr I.env0 (hb s us I.kIn hl) r2 h) fun r s' hq => ?_)
  cases r with
  | error e => exact hx pins σ H s e s' I hq
  | ok fl =>
    cases fl with
    | ret u => exact I.after hq
    | next => exact False.elim hq
    | brk => exact False.elim hq
    | cont => exact False.elim hq
theorem Xy (F : FnOk X.prog X.w X.K X.mg X.base CX k f fd ps sp) (hr : Room k X.A) (hg : Gl X x) (hm : X.mg x = some (.ref f)) (hk : PySem.W.keepIn X.K (.ref f) = true) (hb : Binds X.K fd ps ds) (hd : Vals dvs ds) (hx : vR CX X E)
    (ha : PA X (e :: es) t) (hdb : (x == ("__debug__" : Str)) = false := by decide) (he : starEach (e :: es) X.env = (false, eval e X.env) :: starEach es X.env := by rfl) (hpl : (backTo pos (starEach es X.env)).any (·.1) = false := by rfl) :
    PE X (.Call (.Name x p) (e :: es) [] pos) (vQ sp dvs E t) := by
  intro pins s σ H Q I h
  refine wpAny_Call_Name_kw (Xo I hg hm ?_ hdb)
  refine PySem.W.callWith_K (h₀ := X.base) I.ok.mod.kin hk (thn (ha pos pins s σ H _ I h) fun us s1 ⟨vs, H1, I1, r, q⟩ => ⟨I1.kIn, ?_⟩) he hpl
  exact VH F hr hb hd hx I1 r q
end
section
variable {X : Cx} {CX : CXT} {k : Nat} {f C : Addr} {fd : FuncData} {ps ks : List Str} {sp : Sp} {E : XK} {x m : Str} {p pos apos kpos : Pos} {e o : Expr} {es : List Expr} {kws : List Keyword} {te ta : TE} {t tk : TA} {nm : Option Str}
variable {g : List Value → List Value → List Value} {gV : List V → List V → List V}
end
structure FnScope (N P : List Str) (sc : Scope) : Prop where
  kind : sc.kind = .function
  co : sc.isCoroutine = false
  gen : sc.isGenerator = false
  nd : N.Nodup
  pre : N.take P.length = P
  par : ∀ x ∈ P, sc.names.lookup x = some .local ∨ sc.names.lookup x = some .cell
  nofree : ∀ y ∈ sc.names, y.2 ≠ .free
theorem uA {kindOf : Str → Option NameKind} {x : Str} : ∀ {binds : List (Str × Value)} {m : Str → Option Value}, (∀ v, (x, v) ∉ binds) → bindL kindOf binds m x = m x
  | [], _, _ => rfl
  | (n, v) :: r, m, h => by
    unfold bindL
    rw [uA fun w hw => h w (List.mem_cons_of_mem _ hw)]
    split
    · have : x ≠ n := by rintro rfl; exact h v List.mem_cons_self
      simp [this]
    · rfl
theorem uB {kindOf : Str → Option NameKind} {x : Str} : ∀ {binds : List (Str × Value)} {m : Str → Option Value}, (∀ v, (x, v) ∉ binds) → bindC kindOf binds m x = m x
  | [], _, _ => rfl
  | (n, v) :: r, m, h => by
    unfold bindC
    rw [uB fun w hw => h w (List.mem_cons_of_mem _ hw)]
    split
    · rfl
    · have : x ≠ n := by rintro rfl; exact h v List.mem_cons_self
      simp [this]
theorem uC {kindOf : Str → Option NameKind} {x : Str} {v : Value} : ∀ {P : List Str} {vs : List Value} {i : Nat} {m : Str → Option Value}, P.Nodup → P[i]? = some x → vs[i]? = some v → kindOf x = some .local →
    bindL kindOf (P.zip vs) m x = some v
  | [], _, _, _, _, h, _, _ => by simp at h
  | _ :: _, [], _, _, _, _, h, _ => by simp at h
  | p :: P, w :: vs, 0, m, nd, h1, h2, hk => by
    simp at h1 h2; subst h1; subst h2
    show bindL kindOf ((p, w) :: P.zip vs) m p = _
    unfold bindL
    rw [uA fun v hv => (List.nodup_cons.mp nd).1 (List.of_mem_zip hv).1, if_pos hk]
    simp
  | p :: P, w :: vs, i + 1, m, nd, h1, h2, hk => by
    show bindL kindOf ((p, w) :: P.zip vs) m x = _
    unfold bindL
    exact uC (i := i) (List.nodup_cons.mp nd).2 (by simpa using h1) (by simpa using h2) hk
theorem uD {kindOf : Str → Option NameKind} {x : Str} {v : Value} : ∀ {P : List Str} {vs : List Value} {i : Nat} {m : Str → Option Value}, P.Nodup → P[i]? = some x → vs[i]? = some v → kindOf x ≠ some .local →
    bindC kindOf (P.zip vs) m x = some v
  | [], _, _, _, _, h, _, _ => by simp at h
  | _ :: _, [], _, _, _, _, h, _ => by simp at h
  | p :: P, w :: vs, 0, m, nd, h1, h2, hk => by
    simp at h1 h2; subst h1; subst h2
    show bindC kindOf ((p, w) :: P.zip vs) m p = _
    unfold bindC
    rw [uB fun v hv => (List.nodup_cons.mp nd).1 (List.of_mem_zip hv).1, if_neg hk]
    simp
  | p :: P, w :: vs, i + 1, m, nd, h1, h2, hk => by
    show bindC kindOf ((p, w) :: P.zip vs) m x = _
    unfold bindC
    exact uD (i := i) (List.nodup_cons.mp nd).2 (by simpa using h1) (by simpa using h2) hk
noncomputable def start (N : List Str) (vs : List V) : St := vs.map some ++ List.replicate (N.length - vs.length) none
noncomputable def yS (CX : CXT) (P : Program) (w : World) (K : PySem.W.Frag) (mg : Str → Option Value) (base : Heap) (N : List Str) (qual : Str) (scope : Scope) (f : Addr) (cd : Value) (A : Around) (outer : List Env) (s : Shared) (H : Hp) (E : XK) : Cx where
  prog := P
  w := w
  K := K
  mg := mg
  base := base
  A := A.deeper (envOfC qual scope s.heap.objs.size f cd)
  N := N
  s₀ := s
  H₀ := H
  env := envOfC qual scope s.heap.objs.size f cd
  outer := outer
  stack := envOfC qual scope s.heap.objs.size f cd :: outer
  ex := []
  calm := true
  fn := fun _ => true
  pn := []
  xe := fun e s' => wpAny (model P w) (A.deeper (envOfC qual scope s.heap.objs.size f cd)) (leaving (envOfC qual scope s.heap.objs.size f cd) e) (fun _ s'' => CX outer H s E e s'') (fun e' s'' => CX outer H s E e' s'') s'
theorem qb {sc : Scope} {n : Nat} {x : Str} (h : sc.names.lookup x = some .cell) : ∃ c, (cellsFrom n sc.names []).lookup x = some c := by
  have q := PySem.W.cellsFrom_some sc.names n [] (.inl h)
  exact Option.isSome_iff_exists.mp q
theorem kN {CX : CXT} {P : Program} {w : World} {K : PySem.W.Frag} {mg : Str → Option Value} {base : Heap} {N ps : List Str} {qual : Str} {scope : Scope} {f : Addr} {cd : Value} {A : Around} {outer : List Env} {s s1 : Shared} {H : Hp} {E : XK} {us : List Value} {vs : List V}
    (S : FnScope N ps scope) (hd : A.handled = none) (e0 : Env0 P w K mg base A outer s H) (hl : vs.length = ps.length) (r : Vals vs us)
    (x : InCallC s s.heap.objs.size (bindL (envOfC qual scope s.heap.objs.size f cd).kindOf (ps.zip us) fun _ => none) (cellsFrom (s.heap.objs.size + 1) scope.names []) (bindC (envOfC qual scope s.heap.objs.size f cd).kindOf (ps.zip us) fun _ => none) s1) :
    Inv (yS CX P w K mg base N qual scope f cd A outer s H E) [] (start N vs) H s1 := by
  have hpl : ps.length ≤ N.length := by have := congrArg List.length S.pre; rw [List.length_take] at this; omega
  obtain ⟨h1, tk, rfl, hk⟩ := x.done
  have noA : ∀ b : Addr, b ∉ (yS CX P w K mg base N qual scope f cd A outer s H E).ex := fun b z => absurd (show b ∈ ([] : List Addr) from z) (by simp)
  refine ⟨⟨e0.mod, S.kind, rfl, rfl, Nat.le_refl _, fun y z c h1 h2 => ?_, fun y hy => ?_, fun y c _ h => ?_, fun _ => hd, Around.frames_deeper e0.frames, .inr ⟨rfl, rfl⟩, fun b z => absurd z (noA b), e0.bs, e0.bsz, fun b _ _ => noA b, fun b z => absurd z (noA b), e0.funs, e0.frf⟩,
    rfl, e0.bare, Un.kept hk, ⟨_, x.toInCall.ns, fun i y v h1 h2 h3 => ?_⟩, fun y c h => ⟨_, x.cell y c h⟩, e0.hok.fresh (Nat.le_refl _), fun y c h => ?_, fun p hp => absurd (show p ∈ ([] : List (Addr × Obj)) from hp) (by simp), e0.hok.kept hk, ?_⟩
  · exact name_of_addr x.apart (PySem.mem_of_lookup h1) (PySem.mem_of_lookup h2)
  · have hy : scope.names.lookup y = some .cell ∨ scope.names.lookup y = some .free := hy
    rcases hy with hy | hy
    · exact qb hy
    · exact absurd rfl (S.nofree _ (PySem.mem_of_lookup hy))
  · exact Nat.le_of_lt (x.above y c (PySem.mem_of_lookup h))
  · have hi : i < vs.length := by
      unfold start at h2
      by_cases hi : i < vs.length
      · exact hi
      · rw [List.getElem?_append_right (by simpa using hi)] at h2
        rw [List.getElem?_replicate] at h2
        split at h2 <;> cases h2
    have ha : vs[i]? = some v := by
      unfold start at h2
      rw [List.getElem?_append_left (by simpa using hi), List.getElem?_map] at h2
      cases e : vs[i]? with
      | none => rw [e] at h2; cases h2
      | some a => rw [e] at h2; cases h2; rfl
    obtain ⟨u, hu, rv⟩ := r.get ha
    have hp : ps[i]? = some y := by
      rw [← S.pre, List.getElem?_take_of_lt (by omega)]; exact h1
    have ndP : ps.Nodup := by rw [← S.pre]; exact S.nd.sublist (List.take_sublist _ _)
    refine ⟨u, rv, ?_⟩
    rcases S.par y (List.mem_of_getElem? hp) with k | k
    · exact .inl ⟨k, uC ndP hp hu k⟩
    · obtain ⟨c, e⟩ := qb (n := s.heap.objs.size + 1) k
      refine .inr ⟨.inl k, c, e, ?_⟩
      have q := x.cell y c e
      rw [uD ndP hp hu (by show scope.names.lookup y ≠ _; rw [k]; decide)] at q
      exact q
  · exact e0.hok.fresh (Nat.le_of_lt (x.above y c (PySem.mem_of_lookup h)))
  · unfold start
    show _ = N.length
    rw [List.length_append, List.length_map, List.length_replicate]
    omega
theorem YF {CX : CXT} {P : Program} {w : World} {K : PySem.W.Frag} {mg : Str → Option Value} {base : Heap} {k : Nat} {f : Addr} {name qual : Str} {params : Arguments} {body : List Stmt} {scope : Scope} {dV kV doc pm cdv ct oc : Value} {an od : Option Addr}
    {osl : Array (Option Value)} {N ps : List Str} {sp : Sp} (lk : K.lookup f = some ⟨oc, od, .func (PySem.W.fnOf name qual params body scope dV kV doc pm an cdv ct), osl⟩) (hcd : PySem.W.codeIn K cdv qual = true) (S : FnScope N ps scope)
    (len : ∀ vs H Q E, sp vs H Q E → vs.length = ps.length)
    (hbody : ∀ (A : Around) (outer : List Env) (s : Shared) (H : Hp) (vs : List V) (Q : VK) (E : XK), Room k (A.deeper (envOfC qual scope s.heap.objs.size f cdv)) → sp vs H Q E →
      ∃ t, PSs (yS CX P w K mg base N qual scope f cdv A outer s H E) body t ∧ t { nx := fun _ H' => Q .non H', rt := Q } (start N vs) H) :
    FnOk P w K mg base CX (k + 1) f (PySem.W.fnOf name qual params body scope dV kV doc pm an cdv ct) ps sp := by
  refine ⟨len, fun A outer s H args us vs Q E hr e0 hb r hsp => ?_⟩
  have hl := len _ _ _ _ hsp
  have KX : K.In s.heap := e0.mod.kin.keeps fun b o e => (e0.bs b o e).1
  have lim : s.heap.NoLimit := e0.mod.nolimit.keeps fun b o e => (e0.bs b o e).1
  have hkind : ∀ y ∈ ps.zip us, scope.names.lookup y.1 = some .local ∨ (scope.names.lookup y.1 = some .cell ∧ ((cellsFrom (s.heap.objs.size + 1) scope.names []).lookup y.1).isSome = true) := fun ⟨n, v⟩ hy => by
    rcases S.par n (List.of_mem_zip hy).1 with q | q
    · exact .inl q
    · exact .inr ⟨q, PySem.W.cellsFrom_some _ _ _ (.inl q)⟩
  refine codeAny_call_function hr.depth (KX _ _ lk) rfl S.co S.gen rfl (PySem.W.codeRec_of KX hcd) (hb _ _ _ _ ?_)
  refine wpAny_newFunctionEnv_cells S.kind hkind fun env he s1 x => ?_
  subst he
  refine ⟨lim.keeps x.toInCall.keep, codeAny_func ?_⟩
  obtain ⟨t, ht, hq⟩ := hbody A outer s H vs Q E (hr.deeper _) hsp
  have I : Inv (yS CX P w K mg base N qual scope f cdv A outer s H E) [] (start N vs) H s1 := kN S hr.hd e0 hl r x
  refine wpAny_mono (ht [] s1 (start N vs) H _ I hq) (fun fl s' hs => ?_) fun e s' hs => hs
  have fin : ∀ {σ' : St} {H' : Hp} {v : V} {u : Value}, Inv (yS CX P w K mg base N qual scope f cdv A outer s H E) [] σ' H' s' → RelV v u → Q v H' → CE outer P w H s Q u s' :=
    fun {σ' H' v u} J rv q => ⟨v, H', J.os, J.bare, J.base, J.hok, rv, q⟩
  cases fl with
  | ret u =>
    obtain ⟨v, σ', H', J, rv, q⟩ := hs
    exact fin J rv q
  | next =>
    obtain ⟨σ', H', J, q⟩ := hs
    exact fin (v := V.non) (u := Value.none) J rfl q
  | brk =>
    obtain ⟨_, _, _, q⟩ := hs
    exact False.elim q
  | cont =>
    obtain ⟨_, _, _, q⟩ := hs
    exact False.elim q
end L2
namespace L2
open PySem PySem.Spec PyProof.Rows
section
variable {X : Cx} {x : Str} {p pos : Pos} {e : Expr} {es : List Expr} {t : TA} {id T : String} {r : List V → Hp → VK → Prop}
noncomputable def tCB (r : List V → Hp → VK → Prop) (t : TA) : TE := fun σ H Q => t σ H fun vs H1 => r vs H1 Q
theorem zF (hc : zY X (.builtin id) r) (hg : Gl X x) (hm : X.mg x = none) (hv : bootBuiltins x = some (.builtin id)) (ha : PA X (e :: es) t) (hn : x ≠ "__name__" := by decide) (hdb : (x == ("__debug__" : Str)) = false := by decide)
    (he : starEach (e :: es) X.env = (false, eval e X.env) :: starEach es X.env := by rfl) (hpl : (backTo pos (starEach es X.env)).any (·.1) = false := by rfl) : PE X (.Call (.Name x p) (e :: es) [] pos) (tCB r t) := by
  intro pins s σ H Q I h
  refine wpAny_Call_Name_kw (xW I hg hm hv ?_ hn hdb)
  exact PyProof.Rows.callWith_builtin1 (thn (ha pos pins s σ H _ I h) fun us s1 ⟨vs, H1, I1, r1, q1⟩ => hc pins s1 σ H1 vs us Q I1 r1 q1) he hpl
theorem yE (hc : zY X (.type T) r) (hg : Gl X x) (hm : X.mg x = none) (hv : bootBuiltins x = some (.type T)) (ha : PA X (e :: es) t) (hn : x ≠ "__name__" := by decide) (hdb : (x == ("__debug__" : Str)) = false := by decide)
    (he : starEach (e :: es) X.env = (false, eval e X.env) :: starEach es X.env := by rfl) (hpl : (backTo pos (starEach es X.env)).any (·.1) = false := by rfl) : PE X (.Call (.Name x p) (e :: es) [] pos) (tCB r t) := by
  intro pins s σ H Q I h
  refine wpAny_Call_Name_kw (xW I hg hm hv ?_ hn hdb)
  exact PyProof.Rows.callWith_type1 (thn (ha pos pins s σ H _ I h) fun us s1 ⟨vs, H1, I1, r1, q1⟩ => hc pins s1 σ H1 vs us Q I1 r1 q1) he hpl
end
end L2
namespace HT
open PySem PyProof.Rows
section
open PySem.SeqAt
open PySem.AutoSeq1 (wpAny_loadPart')
open PySem.MeetsSeq PySem.MeetsSeq2 PySem.MeetsSeq3
end
section
variable {prog : Program} {w : World} {A : Around} {E : Value → Shared → Prop} {s : Shared}
noncomputable def sIx (n d : Nat) : Option Int → Nat
  | none => d
  | some v => if v < 0 then (v + (n : Int)).toNat else min v.toNat n
theorem sIx_none (n d : Nat) : sIx n d none = d := rfl
theorem sIx_nat (n d k : Nat) : sIx n d (some (k : Int)) = min k n := by
  show (if (k : Int) < 0 then ((k : Int) + (n : Int)).toNat else min (k : Int).toNat n) = min k n
  rw [if_neg (by omega), Int.toNat_natCast]
end
end HT
namespace L2
open PySem PySem.Spec PyProof.Rows
noncomputable abbrev TO := St → Hp → (Option Int → Hp → Prop) → Prop
noncomputable def PO (X : Cx) (e : Option Expr) (t : TO) : Prop :=
  ∀ (pins : List (Addr × Obj)) (s : Shared) (σ : St) (H : Hp) (Q : Option Int → Hp → Prop), Inv X pins σ H s → t σ H Q →
    wpAny (model X.prog X.w) X.A (evalPart e X.env) (fun u s' => ∃ o H', Inv X pins σ H' s' ∧ IsPart u o ∧ Q o H') X.xe s
noncomputable def jf : TO := fun _ H Q => Q none H
noncomputable def YG (t : TE) : TO := fun σ H Q => t σ H fun x H1 => ∃ i, x = .int i ∧ Q (some i) H1
section
variable {X : Cx} {e : Expr} {te : TE} {lo hi : Option Expr} {tl th : TO} {pos p2 : Pos}
theorem zT : PO X none jf := by
  intro pins s σ H Q I h
  rw [evalPart_none]
  exact wpAny_pure ⟨none, H, I, .none, h⟩
theorem zU (h : PE X e te) : PO X (some e) (YG te) := by
  intro pins s σ H Q I hw
  rw [evalPart_some]
  refine thn (h pins s σ H _ I hw) fun u s1 ⟨x, H1, I1, r1, q1⟩ => ?_
  obtain ⟨i, rfl, q⟩ := q1
  obtain ⟨t, rfl⟩ := r1
  exact ⟨some i, H1, I1, .int i t, q⟩
noncomputable def SlR (X : Cx) (r : V → Option Int → Option Int → Hp → VK → Prop) : Prop :=
  ∀ (pins : List (Addr × Obj)) (s : Shared) (σ : St) (H : Hp) (x : V) (v vl vu : Value) (lo hi : Option Int) (sl : Addr) (Q : VK), Inv X pins σ H s → RelV x v → s.heap.IsSliceOf sl vl vu .none → IsPart vl lo → IsPart vu hi → r x lo hi H Q →
    ∃ T id, typeLookup (.type T) "__getitem__" = pure (some (.builtin id)) ∧ s.TypeIs v T ∧ wpAny (model X.prog X.w) X.A (getItem v (.ref sl)) (EP X pins σ Q) X.xe s
theorem SlR.or {r r' : V → Option Int → Option Int → Hp → VK → Prop} (h : SlR X r) (h' : SlR X r') : SlR X (fun x lo hi H Q => r x lo hi H Q ∨ r' x lo hi H Q) := by
  intro pins s σ H x v vl vu lo hi sl Q I rx hs pl pu q
  rcases q with q | q
  · exact h pins s σ H x v vl vu lo hi sl Q I rx hs pl pu q
  · exact h' pins s σ H x v vl vu lo hi sl Q I rx hs pl pu q
noncomputable def tSl (r : V → Option Int → Option Int → Hp → VK → Prop) (te : TE) (tl th : TO) : TE := fun σ H Q => te σ H fun x H1 => tl σ H1 fun l H2 => th σ H2 fun u H3 => r x l u H3 Q
theorem zK {r : V → Option Int → Option Int → Hp → VK → Prop} (hr : SlR X r) (he : PE X e te) (hl : PO X lo tl) (hu : PO X hi th) : PE X (.Subscript e (.Slice lo hi none p2) pos) (tSl r te tl th) := by
  intro pins s σ H Q I h
  refine Subscript_ (thn (he pins s σ H _ I h) fun v s1 ⟨x, H1, I1, r1, q1⟩ => ?_)
  refine wpAny_Slice (thn (hl pins s1 σ H1 _ I1 q1) fun vl s2 ⟨l, H2, I2, pl, q2⟩ => thn (hu pins s2 σ H2 _ I2 q2) fun vu s3 ⟨u, H3, I3, pu, q3⟩ => ?_)
  rw [evalPart_none]
  refine wpAny_pure ?_
  have I4 : Inv X pins σ H3 { s3 with heap := s3.heap.push { cls := .type "slice", data := .fields #[vl, vu, .none] } } := I3.kept (t' := s3.toks) fun b ob q => Heap.get?_push_of_some _ q
  obtain ⟨T, id, hT, ht, hg⟩ := hr pins { s3 with heap := s3.heap.push { cls := .type "slice", data := .fields #[vl, vu, .none] } } σ H3 x v vl vu l u s3.heap.objs.size Q I4 r1 (Heap.IsSliceOf.new ..) pl pu q3
  show wpAny (model X.prog X.w) X.A (subscriptTail e (.Slice lo hi none p2) v (.ref s3.heap.objs.size)) (EP X pins σ Q) X.xe { s3 with heap := s3.heap.push { cls := .type "slice", data := .fields #[vl, vu, .none] } }
  exact tail_any (ops := [.ref s3.heap.objs.size, v]) ht hT hg (by with_unfolding_all rfl)
noncomputable def xY (xs : List V) (lo hi : Option Int) : List V := (xs.drop (HT.sIx xs.length 0 lo)).take (HT.sIx xs.length xs.length hi - HT.sIx xs.length 0 lo)
theorem qT (xs : List V) (lo hi : Option Int) : (xY xs lo hi).length ≤ xs.length := by
  unfold xY
  rw [List.length_take, List.length_drop]
  omega
end
end L2
namespace L2
open PySem PySem.Spec PyProof.Rows
noncomputable def ixN (n : Nat) (i : Int) : Option Nat := if 0 ≤ i then (if i < n then some i.toNat else none) else if -(n : Int) ≤ i then some (i + n).toNat else none
noncomputable def atI {α : Type} (xs : List α) (i : Int) : Option α := (ixN xs.length i).bind fun j => xs[j]?
theorem jg {n : Nat} {i : Int} {j : Nat} (h : ixN n i = some j) : seqIndex? i n = some j ∧ j < n ∧ -(n : Int) ≤ i ∧ i < n := by
  unfold ixN at h
  by_cases h0 : 0 ≤ i
  · rw [if_pos h0] at h
    by_cases h1 : i < n
    · rw [if_pos h1] at h
      have e : i.toNat = j := Option.some.inj h
      exact ⟨by rw [seqIndex_of h0 h1, e], by omega, by omega, h1⟩
    · rw [if_neg h1] at h; cases h
  · rw [if_neg h0] at h
    by_cases h1 : -(n : Int) ≤ i
    · rw [if_pos h1] at h
      have e : (i + n).toNat = j := Option.some.inj h
      exact ⟨by rw [seqIndex_neg (by omega) h1, e], by omega, h1, by omega⟩
    · rw [if_neg h1] at h; cases h
theorem um {α : Type} {xs : List α} {i : Int} {v : α} (h : atI xs i = some v) : ∃ j, seqIndex? i xs.length = some j ∧ xs[j]? = some v ∧ j < xs.length ∧ -(xs.length : Int) ≤ i ∧ i < xs.length := by
  unfold atI at h
  cases e : ixN xs.length i with
  | none => rw [e] at h; cases h
  | some j =>
    rw [e] at h
    obtain ⟨h1, h2, h3, h4⟩ := jg e
    exact ⟨j, h1, h, h2, h3, h4⟩
theorem xt {α : Type} {xs : List α} {j : Nat} {v : α} (h : xs[j]? = some v) : atI xs (j : Int) = some v := by
  have hj : j < xs.length := (List.getElem?_eq_some_iff.mp h).1
  have e : ixN xs.length (j : Int) = some j := by
    unfold ixN
    rw [if_pos (by omega), if_pos (by omega)]; simp
  unfold atI; rw [e]; exact h
noncomputable def Xz (b : Expr) : Prop := ∀ o i, subscripted b false o i = operate [o, i] (getItem o i)
noncomputable def IxR (X : Cx) (r : R2) : Prop :=
  ∀ (value slice : Expr) (pins : List (Addr × Obj)) (s : Shared) (σ : St) (H : Hp) (x y : V) (v u : Value) (Q : VK), Inv X pins σ H s → RelV x v → RelV y u → r x y H Q →
    subscripted slice false v u = operate [v, u] (getItem v u) → wpAny (model X.prog X.w) X.A (subscriptTail value slice v u) (EP X pins σ Q) X.xe s
noncomputable def MtR (X : Cx) (id : String) (r : V → List V → Hp → VK → Prop) : Prop :=
  ∀ (pins : List (Addr × Obj)) (s : Shared) (σ : St) (H : Hp) (x : V) (xs : List V) (v : Value) (us : List Value) (Q : VK), Inv X pins σ H s → RelV x v → Vals xs us → r x xs H Q →
    wpAny (model X.prog X.w) X.A (call (.builtin id) (v :: us)) (EP X pins σ Q) X.xe s
section
variable {X : Cx} {a b : Expr} {ta tb : TE} {pos : Pos}
theorem IxR.or {r r' : R2} (h : IxR X r) (h' : IxR X r') : IxR X (fun x y H Q => r x y H Q ∨ r' x y H Q) := by
  intro value slice pins s σ H x y v u Q I rx ry q hs
  rcases q with q | q
  · exact h value slice pins s σ H x y v u Q I rx ry q hs
  · exact h' value slice pins s σ H x y v u Q I rx ry q hs
theorem MtR.or {id : String} {r r' : V → List V → Hp → VK → Prop} (h : MtR X id r) (h' : MtR X id r') : MtR X id (fun x xs H Q => r x xs H Q ∨ r' x xs H Q) := by
  intro pins s σ H x xs v us Q I rx rs q
  rcases q with q | q
  · exact h pins s σ H x xs v us Q I rx rs q
  · exact h' pins s σ H x xs v us Q I rx rs q
theorem zp {r : R2} (hr : IxR X r) (ha : PE X a ta) (hb : PE X b tb) (hs : Xz b) : PE X (.Subscript a b pos) (tOp r ta tb) := by
  intro pins s σ H Q I h
  exact Subscript_ (ZE ha hb I h fun v u s2 x y H2 I2 rx ry q => hr a b pins s2 σ H2 x y v u Q I2 rx ry q (hs _ _))
noncomputable def jI (K : PySem.W.Frag) : R2 := fun x y H Q => ∃ p xs i v, x = .ref p ∧ y = .int i ∧ SqL K H p xs ∧ atI xs i = some v ∧ Q v H
noncomputable def ZF (K : PySem.W.Frag) : R2 := fun x y H Q => ∃ p xs i v, x = .ref p ∧ y = .int i ∧ SqT K H p xs ∧ atI xs i = some v ∧ Q v H
noncomputable def VI : R2 := fun x y H Q => ∃ z i c, x = .str z ∧ y = .int i ∧ z.length ≤ sizeLine ∧ atI z.cps.toList i = some c ∧ Q (.str ⟨#[c]⟩) H
theorem XA : IxR X (jI X.K) := by
  intro value slice pins s σ H x y v u Q I rx ry h hs
  obtain ⟨p, xs, i, z, rfl, rfl, hq, he, q⟩ := h
  cases rx
  obtain ⟨t, rfl⟩ := ry
  obtain ⟨its, r, pl, hz⟩ := I.list hq
  obtain ⟨j, h1, h2, h3, h4, h5⟩ := um he
  obtain ⟨w, ew, rw'⟩ := r.get h2
  have hl := r.length
  have hn := xq
  have fin : EP X pins σ Q w s := ⟨z, H, I, rw', q⟩
  by_cases h0 : 0 ≤ i
  · have hj : i.toNat = j := by
      rw [seqIndex_of h0 h5] at h1
      exact Option.some.inj h1
    exact item_listR pl.isList h0 (by omega) (by rw [hj]; simpa using ew) fin hs
  · have hj : (i + (its.toArray.size : Int)).toNat = j := by
      rw [seqIndex_neg (by omega) h4] at h1
      rw [List.size_toArray, ← hl]
      exact Option.some.inj h1
    exact subscriptTail_builtinR (x := w) pl.isList.typeIs slot_list_getitem.lookup
      (wpAny_getItem_list_neg (Q := fun r s' => r = w ∧ EP X pins σ Q r s') pl.isList (by omega) (by rw [List.size_toArray] <;> omega) (by omega) (by rw [hj]; simpa using ew) ⟨rfl, fin⟩) hs
theorem VJ : IxR X (ZF X.K) := by
  intro value slice pins s σ H x y v u Q I rx ry h hs
  obtain ⟨p, xs, i, z, rfl, rfl, hq, he, q⟩ := h
  cases rx
  obtain ⟨t, rfl⟩ := ry
  obtain ⟨its, r, pl, hz⟩ := I.tuple hq
  obtain ⟨j, h1, h2, h3, h4, h5⟩ := um he
  obtain ⟨w, ew, rw'⟩ := r.get h2
  have hl := r.length
  have hn := xq
  have fin : EP X pins σ Q w s := ⟨z, H, I, rw', q⟩
  exact subscriptTail_builtinR (x := w) pl.typeIs slot_tuple_getitem.lookup
    (getItem_tuple (j := j) (Q := fun r s' => r = w ∧ EP X pins σ Q r s') pl (by omega) (by omega) (by rw [List.size_toArray, ← hl]; exact h1) (by simpa using ew) ⟨rfl, fin⟩) hs
theorem kO : IxR X VI := by
  intro value slice pins s σ H x y v u Q I rx ry h hs
  obtain ⟨z, i, c, rfl, rfl, hz, he, q⟩ := h
  obtain ⟨t, rfl⟩ := rx
  obtain ⟨t', rfl⟩ := ry
  obtain ⟨j, h1, h2, h3, h4, h5⟩ := um he
  have hl : z.cps.toList.length = z.length := by simp [Str.length]
  rw [hl] at h1 h4 h5
  have hn := xq
  exact tail_any (typeIs_str s z t) slot_str_getitem.lookup (getItem_str (c := c) (by
    have e1 : decide (i < -(2 ^ 63 : Int)) = false := decide_eq_false (by omega)
    have e2 : decide (i ≥ 2 ^ 63) = false := decide_eq_false (by omega)
    rw [e1, e2, Bool.or_false]) (by rw [h1]; simpa using h2) ⟨.str ⟨#[c]⟩, H, I.tok _, ⟨_, rfl⟩, q⟩) hs
theorem jJ (its : List Value) (n j : Nat) (u : Value) : Obj.mapSeq (·.setIfInBounds j u) { cls := .type "list", data := .seq its.toArray n } = { cls := .type "list", data := .seq (its.set j u).toArray n } := by
  simp [Obj.mapSeq]
theorem Inv.lst {pins : List (Addr × Obj)} {σ : St} {H : Hp} {s : Shared} {p : Addr} {xs : List V} (I : Inv X pins σ H s) (h : H p = some (.lst xs)) :
    ∃ (its : List Value) (n : Nat), Vals xs its ∧ s.heap.get? p = some { cls := .type "list", data := .seq its.toArray n } ∧ xs.length ≤ sizeLine := by
  obtain ⟨z, its, n, r, e⟩ := I.hok p _ h
  exact ⟨its, n, r, e, z⟩
theorem Inv.lstUpd {pins : List (Addr × Obj)} {σ : St} {H : Hp} {s : Shared} {p : Addr} {xs ys : List V} {its its' : List Value} {n n' : Nat} {f : Obj → Obj} (I : Inv X pins σ H s) (h : H p = some (.lst xs))
    (ho : s.heap.get? p = some { cls := .type "list", data := .seq its.toArray n }) (hf : f { cls := .type "list", data := .seq its.toArray n } = { cls := .type "list", data := .seq its'.toArray n' }) (r : Vals ys its') (hz : ys.length ≤ sizeLine) (t : Nat) :
    Inv X pins σ (upd H p (.lst ys)) { s with heap := s.heap.update p f, toks := t } := by
  have e : (s.heap.update p f).get? p = some { cls := .type "list", data := .seq its'.toArray n' } := by
    rw [Heap.get?_update_self f ho (by rw [hf] <;> rfl), hf]
  refine I.write (x := p) (e := p) (by rw [h]; trivial) (.inl rfl) (fun b u hb q => (Heap.get?_update_other _ _ (Ne.symm hb)).trans q) ⟨_, e⟩ ?_
  exact ⟨hz, its', n', r, e⟩
noncomputable def YH : V → V → V → Hp → (Hp → Prop) → Prop := fun o i v H Q => ∃ p xs k j, o = .ref p ∧ i = .int k ∧ H p = some (.lst xs) ∧ ixN xs.length k = some j ∧ Q (upd H p (.lst (xs.set j v)))
theorem qd : Vy X YH := by
  intro pins s σ H o i v ov iv u Q I ro ri rv h
  obtain ⟨p, xs, k, j, rfl, rfl, hp, hj, q⟩ := h
  cases ro
  obtain ⟨t, rfl⟩ := ri
  obtain ⟨its, n, r, ho, hz⟩ := I.lst hp
  obtain ⟨h1, h2, h3, h4⟩ := jg hj
  have hl := r.length
  have hn := xq
  have I' : Inv X pins σ (upd H p (.lst (xs.set j v))) { s with heap := s.heap.update p (Obj.mapSeq (·.setIfInBounds j u)) } :=
    I.lstUpd hp ho (jJ its n j u) (r.set rv j) (by rw [List.length_set]; exact hz) s.toks
  by_cases h0 : 0 ≤ k
  · have hk : k.toNat = j := by
      rw [seqIndex_of h0 h4] at h1
      exact Option.some.inj h1
    exact PySem.W.ki_setAt ho h0 (by omega) (by rw [List.size_toArray, ← hl]; exact h4) (by rw [hk]; exact ⟨_, I', q⟩)
  · have hk : (k + (its.toArray.size : Int)).toNat = j := by
      rw [seqIndex_neg (by omega) h3] at h1
      rw [List.size_toArray, ← hl]
      exact Option.some.inj h1
    exact PySem.W.ki_setBack ho (by omega) (by rw [List.size_toArray, ← hl]; exact h3) (by omega) (by rw [hk]; exact ⟨_, I', q⟩)
theorem qe (lo hi : Option Int) (n : Nat) : (sliceBounds lo hi none n).1 = ((HT.sIx n 0 lo : Nat) : Int) ∧ (sliceBounds lo hi none n).2.1 = ((HT.sIx n n hi : Nat) : Int) ∧ (sliceBounds lo hi none n).2.2 = 1 := by
  refine ⟨?_, ?_, rfl⟩
  · cases lo with
    | none => simp [sliceBounds, HT.sIx]
    | some i =>
      simp only [sliceBounds, HT.sIx, Option.getD_none, show (1 : Int) > 0 by decide, if_true]
      by_cases h : i < 0
      · simp only [h, if_true] <;> omega
      · simp only [h, if_false] <;> omega
  · cases hi with
    | none => simp [sliceBounds, HT.sIx]
    | some i =>
      simp only [sliceBounds, HT.sIx, Option.getD_none, show (1 : Int) > 0 by decide, if_true]
      by_cases h : i < 0
      · simp only [h, if_true] <;> omega
      · simp only [h, if_false] <;> omega
theorem uO (its : List Value) (lo hi : Option Int) : slicePick its.toArray lo hi none = ((its.drop (HT.sIx its.length 0 lo)).take (HT.sIx its.length its.length hi - HT.sIx its.length 0 lo)).toArray := by
  obtain ⟨h1, h2, h3⟩ := qe lo hi its.toArray.size
  unfold slicePick
  rw [h1, h2, h3]
  simp only [sliceRange_one, pick_run, List.size_toArray] <;> rfl
noncomputable def jK (K : PySem.W.Frag) : V → Option Int → Option Int → Hp → VK → Prop := fun x lo hi H Q => ∃ a xs, x = .ref a ∧ SqL K H a xs ∧ ∀ p, H p = none → Q (.ref p) (upd H p (.lst (xY xs lo hi)))
theorem XB : SlR X (jK X.K) := by
  intro pins s σ H x v vl vu lo hi sl Q I rx hs pl pu h
  obtain ⟨a, xs, rfl, hx, q⟩ := h
  cases rx
  obtain ⟨its, r, ht, hz⟩ := I.list hx
  have hlen := r.length
  refine ⟨"list", _, slot_list_getitem.lookup, ht.isList.typeIs, ?_⟩
  refine wpAny_getItem_list_slice ht.isList hs pl pu .none (by simp) ?_ (by rw [List.size_toArray] <;> omega)
  rw [uO, ← hlen]
  refine ⟨.ref s.heap.objs.size, _, I.laid (t' := s.toks) (o := .lst (xY xs lo hi)) (fun b ob q => Heap.get?_push_of_some _ q) (Nat.le_refl _) ?_, rfl, q _ (I.hok.fresh (Nat.le_refl _))⟩
  exact ⟨Nat.le_trans (qT xs lo hi) hz, _, 0, (r.drop (HT.sIx xs.length 0 lo)).take (HT.sIx xs.length xs.length hi - HT.sIx xs.length 0 lo), Heap.get?_push_size _ rfl⟩
theorem qf : zY X (.builtin "len") (fun xs H Q => ∃ p ys, xs = [.ref p] ∧ (SqL X.K H p ys ∨ SqT X.K H p ys) ∧ Q (.int ys.length) H) := by
  intro pins s σ H xs us Q I r h
  obtain ⟨p, ys, rfl, hq, q⟩ := h
  obtain ⟨u, rfl, rx⟩ := jG r
  cases rx
  have hn := xq
  rcases hq with hq | hq
  · obtain ⟨its, r', pl, hz⟩ := I.list hq
    have hlen := r'.length
    exact Calls.call_len_list pl.isList (by simp only [List.size_toArray] <;> omega) ⟨.int ys.length, H, I.tok _, ⟨s.toks + 1, by rw [List.size_toArray, hlen]⟩, q⟩
  · obtain ⟨its, r', pl, hz⟩ := I.tuple hq
    have hlen := r'.length
    exact len_tuple pl (by simp only [List.size_toArray] <;> omega) ⟨.int ys.length, H, I.tok _, ⟨s.toks + 1, by rw [List.size_toArray, hlen]⟩, q⟩
theorem qg : zY X (.builtin "len") (fun xs H Q => ∃ z, xs = [.str z] ∧ z.length ≤ sizeLine ∧ Q (.int z.length) H) := by
  intro pins s σ H xs us Q I r h
  obtain ⟨z, rfl, hz, q⟩ := h
  obtain ⟨u, rfl, t, rfl⟩ := jG r
  have hn := xq
  exact len_str (by omega) ⟨.int z.length, H, I.tok _, ⟨_, rfl⟩, q⟩
theorem zY.or {f : Value} {r r' : List V → Hp → VK → Prop} (h : zY X f r) (h' : zY X f r') : zY X f (fun xs H Q => r xs H Q ∨ r' xs H Q) := by
  intro pins s σ H xs us Q I rs q
  rcases q with q | q
  · exact h pins s σ H xs us Q I rs q
  · exact h' pins s σ H xs us Q I rs q
theorem qh : zY X (.type "list") (fun xs H Q => ∃ p ys, xs = [.ref p] ∧ (SqL X.K H p ys ∨ SqT X.K H p ys) ∧ ∀ l, H l = none → Q (.ref l) (upd H l (.lst ys))) := by
  intro pins s σ H xs us Q I r h
  obtain ⟨p, ys, rfl, hq, q⟩ := h
  obtain ⟨u, rfl, rx⟩ := jG r
  cases rx
  have fin : ∀ (its : List Value), Vals ys its → ys.length ≤ sizeLine → ∀ (h' : Heap) (c' : Nat), (∀ b o', s.heap.get? b = some o' → h'.get? b = some o') →
      h'.get? s.heap.objs.size = some { cls := .type "list", dict := none, data := .seq its.toArray c', slots := #[] } → EP X pins σ Q (.ref s.heap.objs.size) { s with heap := h' } := fun its r' hz h' c' kp e =>
    ⟨.ref s.heap.objs.size, _, I.laid (t' := s.toks) kp (Nat.le_refl _) (show zB X.prog X.w _ h' _ (.lst ys) from ⟨hz, its, c', r', e⟩), rfl, q _ (I.hok.fresh (Nat.le_refl _))⟩
  rcases hq with hq | hq
  · obtain ⟨its, r', pl, hz⟩ := I.list hq
    have hlen := r'.length
    obtain ⟨o, ho, hc, n, hd⟩ := pl.isList
    exact call_list_seq p (.inl rfl) ho hc hd (fun h' c' kp e => fin its r' hz h' c' kp e) (by simp only [List.size_toArray] <;> omega)
  · obtain ⟨its, r', pl, hz⟩ := I.tuple hq
    have hlen := r'.length
    obtain ⟨o, ho, hc, n, hd⟩ := pl
    exact call_list_seq p (.inr rfl) ho hc hd (fun h' c' kp e => fin its r' hz h' c' kp e) (by simp only [List.size_toArray] <;> omega)
noncomputable def tyV (K : PySem.W.Frag) (T : String) (x : V) (H : Hp) : Prop := match x with
  | .str _ => T = "str"
  | .int _ => T = "int"
  | .ref p => (T = "list" ∧ ∃ xs, SqL K H p xs) ∨ (T = "tuple" ∧ ∃ o, K.lookup p = some o ∧ o.cls = .type "tuple" ∧ o.dict = none) ∨
      (T = "dict" ∧ ((∃ kvs, H p = some (.dK kvs)) ∨ ∃ kvs, H p = some (.dT kvs))) ∨ (T = "set" ∧ ∃ S n, H p = some (.set S n))
  | _ => False
theorem kP {pins : List (Addr × Obj)} {σ : St} {H : Hp} {s : Shared} {T : String} {x : V} {v : Value} (I : Inv X pins σ H s) (r : RelV x v) (ty : tyV X.K T x H) :
    s.TypeIs v T ∧ ∀ a, v = .ref a → ∃ ob, s.heap.get? a = some ob ∧ ob.dict = none := by
  cases x with
  | str z =>
    obtain ⟨t, rfl⟩ := r
    cases (show T = "str" from ty)
    exact ⟨typeIs_str s z t, fun _ e => nomatch e⟩
  | int i =>
    obtain ⟨t, rfl⟩ := r
    cases (show T = "int" from ty)
    exact ⟨typeIs_int s i t, fun _ e => nomatch e⟩
  | ref p =>
    cases r
    rcases ty with ⟨rfl, xs, hq⟩ | ⟨rfl, o, hk, hc, hd⟩ | ⟨rfl, hk⟩ | ⟨rfl, S, n, hk⟩
    · obtain ⟨its, _, pl, _⟩ := I.list hq
      refine ⟨pl.isList.typeIs, fun a e => ?_⟩
      cases e
      obtain ⟨o, n, e, c, hd, _⟩ := pl
      exact ⟨o, e, hd⟩
    · refine ⟨⟨o, I.kIn p o hk, hc⟩, fun a e => ?_⟩
      cases e
      exact ⟨o, I.kIn _ o hk, hd⟩
    · have z : ∃ o, s.heap.get? p = some o ∧ o.ExactDict := by
        rcases hk with ⟨kvs, hk⟩ | ⟨kvs, hk⟩
        · obtain ⟨_, _, _, _, o, _, _, e, ex, _⟩ := I.hok p _ hk
          exact ⟨o, e, ex⟩
        · obtain ⟨_, _, _, _, o, _, _, e, ex, _⟩ := I.hok p _ hk
          exact ⟨o, e, ex⟩
      obtain ⟨o, e, ex⟩ := z
      refine ⟨⟨o, e, ex.1⟩, fun a e2 => ?_⟩
      cases e2
      exact ⟨o, e, ex.2.1⟩
    · obtain ⟨o, _, _, _, e, ex, _⟩ := I.hok p _ hk
      refine ⟨⟨o, e, ex.1⟩, fun a e2 => ?_⟩
      cases e2
      exact ⟨o, e, ex.2.1⟩
  | _ => exact False.elim ty
noncomputable def ZG (K : PySem.W.Frag) (T : String) (r : V → List V → Hp → VK → Prop) (to : TE) : TE := fun σ H Q => to σ H fun x H1 => tyV K T x H1 ∧ r x [] H1 Q
noncomputable def tBM (K : PySem.W.Frag) (T : String) (r : V → List V → Hp → VK → Prop) (to : TE) (t : TA) : TE := fun σ H Q => to σ H fun x H1 => tyV K T x H1 ∧ t σ H1 fun xs H2 => r x xs H2 Q
variable {o e : Expr} {es : List Expr} {to : TE} {t : TA} {name : Str} {apos cpos : Pos} {T id : String} {r : V → List V → Hp → VK → Prop}
theorem VL (pa : PlainAttrs T) (slot : Slot T name id) (hty : typeOf (.builtin id) = pure (.type "method_descriptor")) (hm : MtR X id r) (ho : PE X o to)
    (hbase : attributeBase o name X.env (eval o X.env) = eval o X.env := by rfl) (hline : (apos.endLine == cpos.line) = true := by rfl) : PE X (.Call (.Attribute o name apos) [] [] cpos) (ZG X.K T r to) := by
  intro pins s σ H Q I h
  refine wpAny_Call_method0_late hbase hline (thn (ho pins s σ H _ I h) fun v s1 ⟨x, H1, I1, r1, ty, q1⟩ => ?_)
  obtain ⟨h1, h2⟩ := kP I1 r1 ty
  exact ⟨T, id, pa, slot, hty, h1, h2, Calls.callWith_builtin rfl (PySem.evalArgs_none (hm pins s1 σ H1 x [] v [] Q I1 r1 .nil q1))⟩
theorem U4 (pa : PlainAttrs T) (slot : Slot T name id) (hty : typeOf (.builtin id) = pure (.type "method_descriptor")) (hm : MtR X id r) (ho : PE X o to) (ha : PA X (e :: es) t)
    (hbase : attributeBase o name X.env (eval o X.env) = eval o X.env := by rfl)
    (hfew : ((backTo cpos (starEach (e :: es) X.env)).all (fun x => !x.1) && (backToKw cpos (keywordEach [] X.env)).all (fun x => x.1.isSome)
      && decide ((e :: es).length + ([] : List Keyword).length + (if ([] : List Keyword).isEmpty then 0 else 1) < 30)) = true := by rfl)
    (hline : (apos.endLine == cpos.line) = true := by rfl) (hs : starEach (e :: es) X.env = (false, eval e X.env) :: starEach es X.env := by rfl) (hplain : (backTo cpos (starEach es X.env)).any (·.1) = false := by rfl) :
    PE X (.Call (.Attribute o name apos) (e :: es) [] cpos) (tBM X.K T r to t) := by
  intro pins s σ H Q I h
  refine wpAny_Call_method_late hbase hfew hline rfl (thn (ho pins s σ H _ I h) fun v s1 ⟨x, H1, I1, r1, ty, q1⟩ => ?_)
  obtain ⟨h1, h2⟩ := kP I1 r1 ty
  refine ⟨T, id, pa, slot, hty, h1, h2, ?_⟩
  have hA := ha cpos pins s1 σ H1 _ I1 q1
  rw [hs] at hA ⊢
  refine Calls.callWith_builtin (by show (false || (backTo cpos (starEach es X.env)).any (·.1)) = false; rw [hplain] <;> rfl) (Calls.evalArgs_plain ?_)
  exact thn hA fun us s2 ⟨vs, H2, I2, r2, q2⟩ => hm pins s2 σ H2 x vs v us Q I2 r1 r2 q2
end
end L2
namespace L2
open PySem PySem.Spec PyProof.Rows
noncomputable def MtM (X : Cx) (id : String) (r : V → List V → Hp → VK → Prop) : Prop :=
  ∀ (pins : List (Addr × Obj)) (s : Shared) (σ : St) (H : Hp) (x : V) (xs : List V) (v : Value) (us : List Value) (Q : VK), Inv X pins σ H s → RelV x v → Vals xs us → r x xs H Q →
    wpAny (model X.prog X.w) X.A (call (.builtin id) (v :: us)) (EP X pins σ Q) X.xe s
theorem Vals.one : ∀ {x : V} {us : List Value}, Vals [x] us → ∃ u, us = [u] ∧ RelV x u
  | _, _, .cons r .nil => ⟨_, rfl, r⟩
theorem Vals.two : ∀ {x y : V} {us : List Value}, Vals [x, y] us → ∃ u v, us = [u, v] ∧ RelV x u ∧ RelV y v
  | _, _, _, .cons r (.cons q .nil) => ⟨_, _, rfl, r, q⟩
theorem Vals.zero : ∀ {us : List Value}, Vals [] us → us = []
  | _, .nil => rfl
theorem Vals.rep {xs : List V} {us : List Value} (h : Vals xs us) : ∀ k : Nat, Vals (List.replicate k xs).flatten (List.replicate k us).flatten
  | 0 => .nil
  | k + 1 => by
    rw [List.replicate_succ, List.replicate_succ, List.flatten_cons, List.flatten_cons]
    exact Vals.append h (Vals.rep h k)
theorem xZ (its : List Value) : ∀ (k : Nat) (acc : List Value),
    List.foldl (fun x1 x2 => x1 ++ x2) acc.toArray (List.replicate k its.toArray) = (acc ++ (List.replicate k its).flatten).toArray
  | 0, acc => by simp
  | k + 1, acc => by
    have e : acc.toArray ++ its.toArray = (acc ++ its).toArray := by simp
    have e2 : (acc ++ its) ++ (List.replicate k its).flatten = acc ++ (List.replicate (k + 1) its).flatten := by
      rw [List.replicate_succ, List.flatten_cons, List.append_assoc]
    rw [← e2, ← xZ its k (acc ++ its), ← e, List.replicate_succ, List.foldl_cons]
section
variable {X : Cx} {pins : List (Addr × Obj)} {σ : St} {H : Hp} {s : Shared} {l b : Addr} {xs ys zs : List V}
theorem Inv.lset {its its' : List Value} {n : Nat} {f : Array Value → Array Value} {t' : Nat} (I : Inv X pins σ H s) (hH : H l = some (.lst xs))
    (e : s.heap.get? l = some { cls := .type "list", data := .seq its.toArray n }) (hf : f its.toArray = its'.toArray) (hv : Vals ys its') (hz : ys.length ≤ sizeLine) :
    Inv X pins σ (upd H l (.lst ys)) { s with heap := s.heap.update l (Obj.mapSeq f), toks := t' } := by
  have q := PySem.IsL.update e f
  rw [hf] at q
  refine I.write (x := l) (e := l) (by rw [hH]; exact trivial) (.inl rfl) (fun b' u hb hu => (Heap.get?_update_other s.heap (Obj.mapSeq f) (Ne.symm hb)).trans hu) ⟨_, q⟩ ?_
  exact ⟨hz, its', _, hv, q⟩
theorem Inv.lnew {its : List Value} {t' : Nat} (I : Inv X pins σ H s) (hv : Vals ys its) (hz : ys.length ≤ sizeLine) :
    Inv X pins σ (upd H s.heap.objs.size (.lst ys)) { s with heap := s.heap.push { cls := .type "list", data := .seq its.toArray }, toks := t' } :=
  I.laid (fun _ _ q => Heap.get?_push_of_some _ q) (Nat.le_refl _) ⟨hz, its, 0, hv, Heap.get?_push_size _ rfl⟩
theorem Inv.fresh (I : Inv X pins σ H s) : H s.heap.objs.size = none := I.hok.fresh (Nat.le_refl _)
theorem Inv.lstM (I : Inv X pins σ H s) (hH : H l = some (.lst xs)) : xs.length ≤ sizeLine ∧ ∃ (its : List Value) (n : Nat), Vals xs its ∧ xs.length = its.length ∧ s.heap.get? l = some { cls := .type "list", data := .seq its.toArray n } := by
  obtain ⟨z, its, n, r, e⟩ := I.hok l _ hH
  exact ⟨z, its, n, r, r.length, e⟩
theorem qi {n : Nat} (h : n ≤ sizeLine) : Builtin.List.listTooLong n = false := by
  unfold Builtin.List.listTooLong
  exact decide_eq_false (by omega)
end
section
variable {X : Cx}
noncomputable def jh : V → List V → Hp → VK → Prop := fun x vs H Q => ∃ l xs y, x = .ref l ∧ vs = [y] ∧ H l = some (.lst xs) ∧ xs.length < sizeLine ∧ Q .non (upd H l (.lst (xs ++ [y])))
theorem yF : MtM X "list.append" jh := by
  intro pins s σ H x vs v us Q I rx rv h
  obtain ⟨l, xs, y, rfl, rfl, hH, hz, q⟩ := h
  cases rx
  obtain ⟨u, rfl, ru⟩ := rv.one
  obtain ⟨z, its, n, r, hl, e⟩ := I.lstM hH
  refine call_meets F.slot_list_append ⟨_, e, rfl⟩ F.entry_list_append (F.args_list_append_2 _ _) (PySem.list_append l its.toArray n u (by rw [List.size_toArray]; omega)) ⟨e, ?_⟩
  refine ⟨.non, _, I.lset (its' := its ++ [u]) hH e (by simp) (r.append (.cons ru .nil)) ?_, rfl, q⟩
  rw [List.length_append, List.length_singleton]
  omega
noncomputable def kQ : V → List V → Hp → VK → Prop := fun x vs H Q => ∃ l xs, x = .ref l ∧ vs = [] ∧ H l = some (.lst xs) ∧ Q .non (upd H l (.lst []))
theorem qj : MtM X "list.clear" kQ := by
  intro pins s σ H x vs v us Q I rx rv h
  obtain ⟨l, xs, rfl, rfl, hH, q⟩ := h
  cases rx
  have hus := rv.zero
  subst hus
  obtain ⟨z, its, n, r, hl, e⟩ := I.lstM hH
  refine call_meets F.slot_list_clear ⟨_, e, rfl⟩ F.entry_list_clear (F.args_list_clear_1 _) (AutoSeq1.list_clear_list_0 l its.toArray n (by rw [List.size_toArray]; omega)) ⟨e, ?_⟩
  exact ⟨.non, _, I.lset (its' := []) (ys := []) hH e rfl .nil (Nat.zero_le _), rfl, q⟩
noncomputable def VM : R2 := fun x y H Q => ∃ l k xs, x = .ref l ∧ y = .int k ∧ H l = some (.lst xs) ∧ -(2 ^ 63) ≤ k ∧ k < 2 ^ 63 ∧ xs.length * k.toNat ≤ sizeLine ∧
  ∀ p, H p = none → Q (.ref p) (upd H p (.lst (List.replicate k.toNat xs).flatten))
theorem ji {α : Type} (xs : List α) (k : Nat) : (List.replicate k xs).flatten.length = k * xs.length := by
  induction k with
  | zero => simp
  | succ k ih => rw [List.replicate_succ, List.flatten_cons, List.length_append, ih, Nat.succ_mul, Nat.add_comm]
theorem VN : OpR X (binaryOp .Mult) VM := by
  intro pins s σ H x y v u Q I rx ry h
  obtain ⟨l, k, xs, rfl, rfl, hH, h1, h2, hz, q⟩ := h
  cases rx
  obtain ⟨t, rfl⟩ := ry
  obtain ⟨z, its, n, r, hl, e⟩ := I.lstM hH
  have hlen : its.toArray.size * k.toNat ≤ sizeLine := by rw [List.size_toArray, ← hl]; exact hz
  have hcap : ¬ its.toArray.size * k.toNat > (2 ^ 63 - 1) / 8 := by
    have : (sizeLine : Nat) ≤ (2 ^ 63 - 1) / 8 := by decide
    omega
  have hfit : ¬ (!Builtin.List.listFitsIndex k) = true := by
    rw [fitsIndex_both h1 h2]
    exact Bool.false_ne_true
  have hlong : ¬ Builtin.List.listTooLong (its.toArray.size * k.toNat) = true := by
    rw [qi hlen]
    exact Bool.false_ne_true
  have hnew : List.foldl (fun x1 x2 => x1 ++ x2) #[] (List.replicate (if its.toArray.isEmpty = true then 0 else k.toNat) its.toArray) = (List.replicate k.toNat its).flatten.toArray := by
    have f0 : ∀ m : Nat, List.foldl (fun x1 x2 => x1 ++ x2) #[] (List.replicate m its.toArray) = (List.replicate m its).flatten.toArray := fun m => by
      have := xZ its m []
      rw [List.nil_append] at this
      exact this
    rw [f0]
    cases its with
    | nil => simp
    | cons a r' => rw [if_neg (by simp)]
  refine wpAny_binaryOp_repeat_ref (T := "list") (U := "int") (by decide) ⟨_, e, rfl⟩ (fun s' => typeIs_int s' k t) noFill_list_mul F.fills_int_mul F.slot_int_rmul repeat_list F.slot_int_index.lookup
    (call_meets F.slot_int_rmul (typeIs_int s k t) F.entry_int_rmul (F.args_int_rmul_2 _ _) (int___rmul___int_list k t l its.toArray n)
      ⟨e, rfl, ⟨_, e, rfl⟩, call_meets F.slot_list_mul ⟨_, e, rfl⟩ F.entry_list_mul (F.args_list_mul_2 _ _) (AutoListH.list___mul___list_int_3 l its.toArray n k t hfit hcap hlong) ⟨e, ?_⟩⟩)
  rw [hnew]
  exact ⟨.ref _, _, I.lnew (t' := s.toks) (r.rep k.toNat) (by rw [ji, Nat.mul_comm]; exact hz), rfl, q _ I.fresh⟩
end
section
variable {prog : Program} {w : World} {A : Around} {E : Value → Shared → Prop} {s : Shared}
end
section
variable {X : Cx}
end
end L2
namespace Att
open PySem PySem.W PySem.Calls PyProof.Rows
theorem vS {P : Params} {h : Heap} : ∀ (ns : List Int) (vs : List Value), WellAll P h vs (ns.map WData.int) → IntsAre vs ns := by
  intro ns
  induction ns with
  | nil =>
    intro vs w
    rw [List.map_nil] at w
    cases w
    exact .nil
  | cons n ns ih =>
    intro vs w
    rw [List.map_cons] at w
    cases w with
    | cons a b =>
      cases a
      exact .cons _ _ (ih _ b)
theorem kR {l : OpenLaw} {n : Nat} (hn : l.most = some n) {P : Params} {h : Heap} {args : List WData} {vals : List Value}
    (hpre : l.row.toRowW.claim.pre args = true) (hwl : WellAll P h vals args) :
    ∃ a vs ns, vals = [Value.ref a] ∧ args = [WData.list (ns.map WData.int)] ∧ h.get? a = some { cls := .type "list", data := .seq vs.toArray } ∧ IntsAre vs ns ∧ ns.length ≤ n := by
  have hsh : WShape.hasAll [] args [.list .int] = true := (pre_splitW hpre).1
  have hc : l.pre.holds [] { args := args } = true := (pre_splitW hpre).2
  obtain ⟨d, r, rfl, h1, h2⟩ := hasAllW_cons hsh
  obtain rfl := hasAllW_nil h2
  obtain ⟨xs, rfl, h3⟩ := hasW_list h1
  obtain ⟨ns, rfl⟩ := items_int h3
  have hlen : ns.length ≤ n := by
    unfold OpenLaw.pre at hc
    have h4 : (WTm.not (.lt (.lit (.int (n : Int))) (.len (.arg 0)))).holds [] { args := [.list (ns.map .int)] } = true := by
      have h4 := (holds_andW hc).1
      rw [hn] at h4
      exact h4
    have h5 := condW_of h4 (w_not (w_lt w_lit (w_len_list (w_arg rfl))))
    rw [List.length_map] at h5
    refine Nat.le_of_not_lt fun q => ?_
    have q' : (n : Int) < ((ns.length : Nat) : Int) := by omega
    first
      | (rw [decide_eq_true q'] at h5; exact absurd h5 (by decide))
      | (simp at h5; omega)
  cases hwl with
  | cons w1 w2 =>
    cases w2
    cases w1 with
    | list ho hall => exact ⟨_, _, ns, rfl, rfl, ho, vS ns _ hall, hlen⟩
theorem kS (l : OpenLaw) (args : List WData) : l.row.toRowW.claim.post args (.bool true) args = true :=
  postW_of (r := l.row.toRowW) (X := (true == true))
    (show WShape.has [] (.bool true) .bool = true by first | rfl | decide | simp [WShape.has, WShape.arms, WShape.armsAll])
    (show (WTm.eq .res (.lit (.bool true))).value [] { args := args, res := some (.bool true), after := args } = some (.bool (true == true)) from w_eq_bool (w_res rfl) w_lit) rfl
section
variable {prog : Program} {w : World} {A : Around} {E : Value → Shared → Prop} {s : Shared} {K : Frag}
noncomputable def QL (h : Heap) (L d : Addr) : List (Addr × Obj) := (List.range h.objs.size).filterMap fun a => if a = L ∨ a = d then none else (h.get? a).map fun o => (a, o)
end
end Att
namespace L2
open PySem PySem.Spec PyProof.Rows
theorem uE : ∀ {vs : List Value} {ns : List Int}, IntsAre vs ns → Vals (ns.map V.int) vs
  | _, _, .nil => .nil
  | _, _, .cons n t h => .cons ⟨t, rfl⟩ (uE h)
noncomputable def VO (H : Hp) : Prop := ∀ b, H b = none ∨ ∃ o xs, H b = some (.frz o (.lst xs))
theorem ZH {P : Program} {w : World} {K : PySem.W.Frag} {mg mb : Str → Option Value} {CX : CXT} {k : Nat} {fa a : Addr} {fd : FuncData} {x : Str} {sp : Sp} {s₁ : Shared} {vs : List Value} {ns : List Int}
    (KX : K.In s₁.heap) (hns : s₁.heap.Ns mainGlobals mg) (hb : s₁.heap.Ns builtinsNs mb) (hbb : ∀ x : Str, x ≠ "__name__" → mb x = bootBuiltins x) (hlim : s₁.heap.NoLimit) (hg : s₁.gens = #[])
    (ha : s₁.heap.get? a = some { cls := .type "list", data := .seq vs.toArray }) (hi : IntsAre vs ns) (hl : ns.length ≤ sizeLine) (hr : Room k callerA)
    (F : ∀ base : Heap, K.In base → base.Ns mainGlobals mg → FnOk P w K mg base CX k fa fd [x] sp) (hbind : ∀ (s : Shared) (u : Value), BindsTo s fd ⟨[u], []⟩ [(x, u)])
    (hsp : ∀ H : Hp, VO H → SqL K H a (ns.map V.int) → sp [.ref a] H (fun v _ => v = .bl true) fun _ _ _ => False)
    (hCX : ∀ H e s', CX [] H s₁ (fun _ _ _ => False) e s' → False) :
    codeAny (model P w) callerA (.call (.ref fa) ⟨[.ref a], []⟩) (fun r s' => r = .ok (.ret (.bool true)) ∧ OldK s₁.heap s'.heap ∧ s'.os = s₁.os ∧ AllBare s'.gens) s₁ := by
  have rv := uE hi
  have lenV := hi.length
  have core : ∀ H : Hp, VO H → SqL K H a (ns.map V.int) → HOk P w H s₁.heap → (∀ b, H b ≠ none → b = a) → (H a ≠ none → K.lookup a = none) →
      codeAny (model P w) callerA (.call (.ref fa) ⟨[.ref a], []⟩) (fun r s' => r = .ok (.ret (.bool true)) ∧ OldK s₁.heap s'.heap ∧ s'.os = s₁.os ∧ AllBare s'.gens) s₁ := by
    intro H hO hS hok hA hK
    have base_of : ∀ {b : Addr} {o : Obj}, s₁.heap.get? b = some o → H b = none → (xB s₁.heap H).get? b = some o := fun e n => Zy e n
    have noA : ∀ {b : Addr} {o : Obj} {es : Array DictEntry} {ep : Nat}, s₁.heap.get? b = some o → o.data = .dict es ep → H b = none := fun {b o es ep} e d => by
      cases q : H b with
      | none => rfl
      | some u =>
        have e' : b = a := hA b (by rw [q]; simp)
        subst e'
        rw [ha] at e; cases e
        have d' : Data.seq vs.toArray _ = Data.dict es ep := d
        cases d'
    have nsK : ∀ {b : Addr} {m : Str → Option Value}, s₁.heap.Ns b m → (xB s₁.heap H).Ns b m := fun {b m} ⟨o, es, ep, e, d, r⟩ => ⟨o, es, ep, base_of e (noA e d), d, r⟩
    have hKb : K.In (xB s₁.heap H) := fun b o e => base_of (KX b o e) (by
      cases q : H b with
      | none => rfl
      | some u =>
        have e' : b = a := hA b (by rw [q]; simp)
        subst e'
        rw [hK (by rw [q]; simp)] at e; cases e)
    have hM : Mod K mg (xB s₁.heap H) := ⟨hKb, nsK hns, ⟨mb, nsK hb, hbb⟩, let ⟨mc, h1, h2⟩ := hlim; ⟨mc, nsK h1, h2⟩⟩
    have e0 : Env0 P w K mg (xB s₁.heap H) callerA [] s₁ H := ⟨rfl, hM, fun b o e => Xm e, Nat.le_of_eq (kA _ _), trivial, fun b hb => absurd (show b ∈ ([] : List Addr) from hb) (by simp), hok, .of_eq hg⟩
    refine codeAny_mono ((F _ hKb (nsK hns)).run callerA [] s₁ H ⟨[.ref a], []⟩ [.ref a] [.ref a] _ _ hr e0 (hbind s₁ (.ref a)) (.cons rfl .nil) (hsp H hO hS)) fun r s' h => ?_
    cases r with
    | error e => exact (hCX H e s' h).elim
    | ok fl =>
      cases fl with
      | next => exact False.elim h
      | brk => exact False.elim h
      | cont => exact False.elim h
      | ret u =>
        obtain ⟨v, H', os, bare, un, hok', r', q⟩ := h
        have q' : v = .bl true := q
        subst q'
        obtain rfl : u = Value.bool true := r'
        refine ⟨rfl, OldK.of_keep fun b o e => ?_, os, bare⟩
        cases q : H b with
        | none => exact un.keep b o e q (by intro z; exact absurd (show b ∈ ([] : List Addr) from z) (by simp)) (by simp)
        | some u =>
          rcases hO b with z | ⟨ob, xs, z⟩
          · rw [q] at z; cases z
          · have z2 := un.frzs b ob _ z
            obtain ⟨e1, _⟩ := hok b _ z
            obtain ⟨e2, _⟩ := hok' b _ z2
            rw [e] at e1; cases e1
            exact e2
  cases hk : K.lookup a with
  | some o =>
    have e := KX a o hk
    rw [ha] at e
    cases e
    refine core (fun _ => none) (fun _ => .inl rfl) (.inr ⟨_, vs.toArray, _, hk, rfl, rfl, rfl, by rw [List.size_toArray, lenV]; exact hl, by simpa using rv⟩) (fun b u z => by have z' : (none : Option HO) = some u := z; cases z') (fun b z => absurd rfl z) fun z => absurd rfl z
  | none =>
    refine core (fun b => if b = a then some (.frz { cls := .type "list", data := .seq vs.toArray } (.lst (ns.map V.int))) else none) (fun b => ?_) (.inl (.inr ⟨{ cls := .type "list", data := .seq vs.toArray }, if_pos rfl⟩)) (fun b u z => ?_) (fun b z => ?_) fun _ => hk
    · by_cases hb : b = a
      · exact .inr ⟨_, _, if_pos hb⟩
      · exact .inl (if_neg hb)
    · by_cases hb : b = a
      · have z' := (if_pos hb).symm.trans z
        cases z'
        subst hb
        exact ⟨ha, by rw [List.length_map]; exact hl, vs, _, rv, ha⟩
      · have z' := (if_neg hb).symm.trans z
        cases z'
    · by_cases hb : b = a
      · exact hb
      · exact absurd (if_neg hb) z
end L2
namespace L2
open PySem PySem.Spec PyProof.Rows
end L2
namespace L2
open PySem PySem.Spec PyProof.Rows
noncomputable def defArgs (s : Stmt) : Arguments := match s with
  | .FunctionDef _ a _ _ _ _ _ _ _ _ => a
  | _ => { posonlyargs := [], args := [], vararg := none, kwonlyargs := [], kw_defaults := [], kwarg := none, defaults := [] }
noncomputable def defBody (s : Stmt) : List Stmt := match s with
  | .FunctionDef _ _ b _ _ _ _ _ _ _ => b
  | _ => []
noncomputable def defScope (s : Stmt) : Scope := match s with
  | .FunctionDef _ _ _ _ _ _ sc _ _ _ => sc
  | _ => { kind := .function, names := [], isGenerator := false, isCoroutine := false }
noncomputable abbrev CX0 : CXT := fun _ _ _ _ _ _ => False
noncomputable abbrev E0 : XK := fun _ _ _ => False
theorem U5 {X : Cx} : vR CX0 X E0 := fun _ _ _ _ _ _ _ h => h.elim
structure Fun (K : PySem.W.Frag) (x qual : Str) (st : Stmt) (f : Addr) (fd : FuncData) : Prop where
  ex : ∃ (oc : Value) (od : Option Addr) (kV doc pm : Value) (an : Option Addr) (cdv ct : Value) (osl : Array (Option Value)),
    fd = PySem.W.fnOf x qual (defArgs st) (defBody st) (defScope st) .none kV doc pm an cdv ct ∧ K.lookup f = some ⟨oc, od, .func fd, osl⟩ ∧ PySem.W.codeIn K cdv qual = true
  kp : PySem.W.keepIn K (.ref f) = true
section
variable {P : Program} {w : World} {K : PySem.W.Frag} {mg : Str → Option Value} {base : Heap}
theorem Fun.ok {x qual : Str} {st : Stmt} {f : Addr} {fd : FuncData} {N ps : List Str} {k : Nat} {sp : Sp} (F : Fun K x qual st f fd) (S : FnScope N ps (defScope st)) (len : ∀ vs H Q E, sp vs H Q E → vs.length = ps.length)
    (hbody : ∀ (cdv : Value) (A : Around) (outer : List Env) (s : Shared) (H : Hp) (vs : List V) (Q : VK) (E : XK), Room k (A.deeper (envOfC qual (defScope st) s.heap.objs.size f cdv)) → sp vs H Q E →
      ∃ t, PSs (yS CX0 P w K mg base N qual (defScope st) f cdv A outer s H E).nox (defBody st) t ∧ t { nx := fun _ H' => Q .non H', rt := Q } (start N vs) H) : FnOk P w K mg base CX0 (k + 1) f fd ps sp := by
  obtain ⟨oc, od, kV, doc, pm, an, cdv, ct, osl, rfl, lk, hcd⟩ := F.ex
  refine YF lk hcd S len fun A outer s H vs Q E hr hsp => ?_
  obtain ⟨t, h, q⟩ := hbody cdv A outer s H vs Q E hr hsp
  exact ⟨t, h.nox, q⟩
theorem Fun.binds {x qual : Str} {st : Stmt} {f : Addr} {fd : FuncData} {ps : List Str} (F : Fun K x qual st f fd)
    (h : ∀ (kV doc pm : Value) (an : Option Addr) (cdv ct : Value) (us : List Value), us.length = ps.length → bindArgs (PySem.W.fnOf x qual (defArgs st) (defBody st) (defScope st) .none kV doc pm an cdv ct) ⟨us, []⟩ = pure (ps.zip us)) : Binds K fd ps [] := by
  obtain ⟨oc, od, kV, doc, pm, an, cdv, ct, osl, rfl, lk, hcd⟩ := F.ex
  exact .all (h kV doc pm an cdv ct)
theorem VP {x qual : Str} {st : Stmt} {f : Addr} {oc : Value} {od an : Option Addr} {osl : Array (Option Value)} {kV doc pm cdv ct : Value} (l : K.lookup f = some ⟨oc, od, .func (PySem.W.fnOf x qual (defArgs st) (defBody st) (defScope st) .none kV doc pm an cdv ct), osl⟩)
    (c : PySem.W.codeIn K cdv qual = true) (k : PySem.W.keepIn K (.ref f) = true) : Fun K x qual st f (PySem.W.fnOf x qual (defArgs st) (defBody st) (defScope st) .none kV doc pm an cdv ct) := ⟨⟨oc, od, kV, doc, pm, an, cdv, ct, osl, rfl, l, c⟩, k⟩
end
theorem U6 {A : Around} {k : Nat} (hr : Room k A) : A.units + 1 < cLine := Nat.lt_of_le_of_lt (Nat.add_le_add_left (by decide : 1 ≤ 64) _) hr.units
theorem yG {n : Nat} (h : n ≤ 1000) : n < sizeLine := Nat.lt_of_le_of_lt h (by decide)
section
variable {X : Cx}
theorem pv (i : Nat) {x : Str} {pos : Pos} (hN : X.N[i]? = some x := by rfl) (hv : Vis X.env.scope x := by first | exact Or.inl rfl | exact Or.inr (Or.inl rfl) | exact Or.inr (Or.inr rfl)) (hd : (x == ("__debug__" : Str)) = false := by decide)
    (hcd : (x == ("__classdict__" : Str)) = false := by decide) : PE X (.Name x pos) (jA i) := Vn hN hv hd hcd
end
noncomputable def Same (H H' : Hp) : Prop := ∀ b o, H b = some o → H' b = some o
theorem Same.refl (H : Hp) : Same H H := fun _ _ h => h
theorem Same.trans {H H1 H2 : Hp} (a : Same H H1) (b : Same H1 H2) : Same H H2 := fun c o h => b c o (a c o h)
theorem Same.free {H H' : Hp} (e : Same H H') {l : Addr} (h : H' l = Option.none) : H l = Option.none := by
  cases q : H l with
  | none => rfl
  | some o =>
    rw [e l o q] at h
    cases h
theorem Same.seq {K : PySem.W.Frag} {H H' : Hp} {a : Addr} {xs : List V} (e : Same H H') (h : SqL K H a xs) : SqL K H' a xs := by
  rcases h with (h | ⟨o, h⟩) | h
  · exact .inl (.inl (e _ _ h))
  · exact .inl (.inr ⟨o, e _ _ h⟩)
  · exact .inr h
end L2
namespace L2
open PySem PySem.Spec PyProof.Rows
theorem XC {prog : Program} {w : World} {A : Around} {R : Result → Shared → Prop} {s : Shared} {elt tg iter : Expr} {ifs : List Expr} {scope : Scope} {pos : Pos} {it acc : Value} {env : Env} (J : Nat → Shared → Prop)
    (turn : ∀ k s0, J k s0 → wpAny (model prog w) A (pyNext it) (fun r s1 => match r with
      | none => R (.ok .next) s1
      | some v => wpAny (model prog w) A (letOwnedTupleGo tg it v) (fun _ s2 => wpAny (model prog w) A (assign tg env v) (fun _ s3 =>
          wpAny (model prog w) A (forIn ifs true fun c r => if r = true then do let ok ← isTrue c env (eval c env); pure (ForInStep.yield ok) else pure (ForInStep.yield r)) (fun ok s4 =>
            if ok = true then wpAny (model prog w) A (eval elt env) (fun x s5 => wpAny (model prog w) A (call (.builtin "list.append") [acc, x]) (fun _ s6 => ∃ j, j < k ∧ J j s6) (fun _ _ => False) s5) (fun _ _ => False) s4
            else ∃ j, j < k ∧ J j s4) (fun _ _ => False) s3) (fun _ _ => False) s2) (fun _ _ => False) s1) (fun _ _ => False) s0)
    (k : Nat) (h : J k s) : codeAny (model prog w) A (.compLoop (.ListComp elt [⟨tg, iter, ifs, 0⟩] scope pos) 0 it acc env) R s := by
  refine codeAny_loop rfl J (fun k0 s0 hJ => ?_) k h
  show wpAny _ A ((compTurn (.ListComp elt [⟨tg, iter, ifs, 0⟩] scope pos) 0 it acc env).onRaise (fun x => do noteFrame x env; theTreesLotGoes x)) _ _ s0
  refine wpAny_noted ?_
  rw [compTurn_list]
  refine wpAny_bind (wpAny_standAt (wpAny_bind (wpAny_mono (turn k0 s0 hJ) (fun r s1 h1 => ?_) fun _ _ f => f.elim)))
  cases r with
  | none => exact wpAny_pure h1
  | some v =>
    refine wpAny_bind (wpAny_mono h1 (fun _ s2 h2 => wpAny_bind (wpAny_mono h2 (fun _ s3 h3 => wpAny_bind (wpAny_mono h3 (fun ok s4 h4 => ?_) fun _ _ f => f.elim)) fun _ _ f => f.elim)) fun _ _ f => f.elim)
    cases ok with
    | false => exact wpAny_pure ⟨rfl, h4⟩
    | true => exact wpAny_bind (wpAny_bind (wpAny_mono h4 (fun x s5 h5 => wpAny_bind (wpAny_mono h5 (fun _ s6 h6 => wpAny_pure (wpAny_pure ⟨rfl, h6⟩)) fun _ _ f => f.elim)) fun _ _ f => f.elim))
noncomputable def PTs (X : Cx) (ifs : List Expr) (t : TT) : Prop :=
  ∀ (pins : List (Addr × Obj)) (s : Shared) (σ : St) (H : Hp) (Q : Bool → Hp → Prop), Inv X pins σ H s → t σ H Q →
    wpAny (model X.prog X.w) X.A (forIn ifs true fun c r => if r = true then do let ok ← isTrue c X.env (eval c X.env); pure (ForInStep.yield ok) else pure (ForInStep.yield r)) (TP X pins σ Q) X.xe s
noncomputable def VQ : TT := fun _ H Q => Q true H
theorem yd {X : Cx} : PTs X [] VQ := fun _ _ _ H _ I h => wpAny_tests_nil ⟨H, I, h⟩
theorem XD {X : Cx} {c : Expr} {t : TT} (h : PT X c t) : PTs X [c] t := fun pins s σ H Q I hw => wpAny_tests_one (h pins s σ H Q I hw)
noncomputable def zA (X : Cx) (N : List Str) (scope : Scope) (cl : List (Str × Addr)) (C : Addr) (s : Shared) (H : Hp) (fp : List Addr) : Cx where
  prog := X.prog
  w := X.w
  K := X.K
  mg := X.mg
  base := X.base
  A := X.A
  N := N
  s₀ := s
  H₀ := H
  env := compEnvC scope cl C X.env
  outer := X.stack
  stack := X.stack
  ex := fp
  fn := fun _ => false
  calm := X.calm
  pn := []
  xe := fun _ _ => False
noncomputable def xD (n : Nat) (js : List Nat) (σ : St) : St := List.replicate n none ++ js.map fun j => (σ[j]?).join
structure LcOk (X : Cx) (N : List Str) (n : Nat) (js : List Nat) (scope : Scope) (cl : List (Str × Addr)) : Prop where
  clos : closureFor scope X.env = pure cl
  nocell : ∀ y ∈ scope.names, y.2 ≠ .cell
  kind : scope.kind = .function
  names : ∀ y ∈ scope.names, y.2 = .local → scope.names.lookup y.1 = some .local
  cells : ∀ x c, cl.lookup x = some c → X.env.cells.lookup x = some c
  has : ∀ x, ((relabel scope X.env).names.lookup x = some .cell ∨ (relabel scope X.env).names.lookup x = some .free) → ∃ c, cl.lookup x = some c
  len : n + js.length = N.length
  free : ∀ (i : Nat) (x : Str), N[n + i]? = some x → ∃ j c, js[i]? = some j ∧ X.N[j]? = some x ∧ (X.env.scope.names.lookup x = some .cell ∨ X.env.scope.names.lookup x = some .free) ∧
    ((relabel scope X.env).names.lookup x = some .cell ∨ (relabel scope X.env).names.lookup x = some .free) ∧ cl.lookup x = some c
section
variable {X : Cx} {pins : List (Addr × Obj)} {σ : St} {H : Hp} {s : Shared} {N : List Str} {n : Nat} {js : List Nat} {scope : Scope} {cl : List (Str × Addr)}
theorem LcOk.ok (L : LcOk X N n js scope cl) (I : Inv X pins σ H s) {fp : List Addr} (hf : ∀ b ∈ fp, FpOk X pins H b) (hlt : ∀ b ∈ fp, b < s.heap.objs.size) {C : Addr} (hC : s.heap.objs.size ≤ C) : (zA X N scope cl C s H fp).Ok where
  mod := I.ok.mod
  kind := L.kind
  glob := I.ok.glob
  blt := I.ok.blt
  above := hC
  inj := fun x y c h1 h2 => I.ok.inj x y c (L.cells x c h1) (L.cells y c h2)
  has := fun x hx => L.has x hx
  cab := fun x c hx _ => by cases hx
  hd := I.ok.hd
  frames := I.ok.frames
  stk := .inl rfl
  exf := fun b hb => ⟨Nat.ne_of_lt (Nat.lt_of_lt_of_le (hlt b hb) hC), fun x c e => (hf b hb).2.2.2.2.1 x c (L.cells x c e)⟩
  bs := I.bs
  bsz := Nat.le_trans I.ok.bsz I.sz
  noex := fun b o e hb => by
    rcases (hf b hb).2.2.2.1 with z | z
    · exact I.ok.noex b o e z
    · exact absurd (Nat.lt_of_lt_of_le (Heap.lt_size (I.ok.bs b o e).1) z) (Nat.lt_irrefl _)
  exfs := fun b hb hz => by
    rcases List.mem_cons.mp (I.stkSub b hz) with z | z
    · exact (hf b hb).2.1 z
    · exact (hf b hb).2.2.1 z
  funs := I.stack
  frf := I.stkFree
theorem ZI {n : Nat} {js : List Nat} {σ : St} {i : Nat} {v : V} (h : (xD n js σ)[i]? = some (some v)) : ∃ k j, i = n + k ∧ js[k]? = some j ∧ σ[j]? = some (some v) := by
  unfold xD at h
  by_cases hi : i < n
  · rw [List.getElem?_append_left (by simpa using hi), List.getElem?_replicate] at h
    split at h <;> cases h
  · rw [List.getElem?_append_right (by simpa using hi), List.length_replicate, List.getElem?_map] at h
    cases e : js[i - n]? with
    | none => rw [e] at h; cases h
    | some j =>
      rw [e] at h
      refine ⟨i - n, j, by omega, e, ?_⟩
      cases e2 : σ[j]? with
      | none => rw [Option.map_some, e2] at h; cases h
      | some o =>
        rw [Option.map_some, e2] at h
        have h' : o = some v := Option.some.inj h
        rw [h']
theorem Inv.lc (L : LcOk X N n js scope cl) (I : Inv X pins σ H s) {fp : List Addr} (hf : ∀ b ∈ fp, FpOk X pins H b) (hlt : ∀ b ∈ fp, b < s.heap.objs.size) {D C : Addr} {h1 : Heap} {m : Str → Option Value} {tk : Nat}
    (hD : s.heap.objs.size ≤ D) (hC : s.heap.objs.size ≤ C) (hDC : D ≠ C) (hn : h1.Ns C m) (old : ∀ b o, s.heap.get? b = some o → h1.get? b = some o) {k : Nat} (hl : h1.get? D = some { cls := .type "list", data := .seq ([] : List Value).toArray k }) :
    Inv (zA X N scope cl C s H fp) [] (xD n js σ) (upd H D (.lst [])) { s with heap := h1, toks := tk } where
  ok := L.ok I hf hlt hC
  os := rfl
  bare := I.bare
  base := Un.laid old hD (I.hok.fresh hD)
  loc := by
    refine ⟨m, hn, fun i x v e1 e2 e3 => ?_⟩
    obtain ⟨k, j, rfl, ej, eσ⟩ := ZI e2
    obtain ⟨j', c, ej', eN, kx, kr, ec⟩ := L.free k x e1
    rw [ej] at ej'
    cases ej'
    obtain ⟨mx, hmx, hl'⟩ := I.loc
    obtain ⟨u, r, lk⟩ := hl' j x v eN eσ (kx.elim (fun z => .inr (.inl z)) fun z => .inr (.inr z))
    refine ⟨u, r, .inr ⟨kr, c, ec, ?_⟩⟩
    have hcx := L.cells x c ec
    rcases lk with ⟨z, _⟩ | ⟨_, c', e', hc'⟩
    · have z' : X.env.scope.names.lookup x = some .local := z
      rcases kx with y | y <;> rw [y] at z' <;> cases z'
    · rw [hcx] at e'
      cases e'
      obtain ⟨o, ho, hd⟩ := hc'
      exact ⟨o, old _ _ ho, hd⟩
  cell := fun x c e => by
    obtain ⟨v, o, ho, hd⟩ := I.cell x c (L.cells x c e)
    exact ⟨v, o, old _ _ ho, hd⟩
  free := by
    show upd H D (.lst []) C = none
    rw [zb (Ne.symm hDC)]
    exact I.hok.fresh hC
  freeC := fun x c e => by
    obtain ⟨v, o, ho, hd⟩ := I.cell x c (L.cells x c e)
    rw [zb (Nat.ne_of_lt (Nat.lt_of_lt_of_le (Heap.lt_size ho) hD))]
    exact I.freeC x c (L.cells x c e)
  pin := fun p hp => absurd (show p ∈ ([] : List (Addr × Obj)) from hp) (by simp)
  hok := I.hok.laid old hD ⟨Nat.zero_le _, [], k, .nil, hl⟩
  len := by
    show (xD n js σ).length = N.length
    unfold xD
    rw [List.length_append, List.length_replicate, List.length_map]
    exact L.len
theorem Inv.unlc {fp : List Addr} {C : Addr} {σ' : St} {H' : Hp} {s' : Shared} {h' : Heap} (I : Inv X pins σ H s) (hf : ∀ b ∈ fp, FpOk X pins H b) (hC : s.heap.objs.size ≤ C) (I' : Inv (zA X N scope cl C s H fp) [] σ' H' s') (hs : Heap.SameBut C s'.heap h') :
    Inv X pins σ H' { s' with heap := h' } := by
  have nC : ∀ b o, s.heap.get? b = some o → b ≠ C := fun b o e => Nat.ne_of_lt (Nat.lt_of_lt_of_le (Heap.lt_size e) hC)
  have hfree : H' C = none := I'.free
  have u := I'.base
  refine I.call' (ch := fp) (s' := { s' with heap := h' }) I'.os ⟨fun b o e n hb hx => ?_, fun b o e n hb hx => ?_, u.free, fun b o e hx => ?_, u.tups, u.frzs, u.tbls⟩ (fun b ob e => ?_) I'.bare fun b hb => ⟨(hf b hb).2.2.2.1, (hf b hb).2.1, (hf b hb).2.2.2.2.1, (hf b hb).2.2.2.2.2⟩
  · exact (hs.2 b (nC b o e)).trans (u.keep b o e n hb hx)
  · obtain ⟨sl, q⟩ := u.slot b o e n hb hx
    exact ⟨sl, (hs.2 b (nC b o e)).trans q⟩
  · obtain ⟨o', q⟩ := u.there b o e hx
    exact ⟨o', (hs.2 b (nC b o e)).trans q⟩
  · refine (I'.hok b ob e).stay (fun c w' hc q => (hs.2 c ?_).trans q) (fun _ q => q) fun _ _ q => q
    rintro rfl
    rcases hc with rfl | hc
    · rw [hfree] at e
      cases e
    · rw [hfree] at hc
      cases hc
noncomputable def tLc (wi : TI) (n : Nat) (js : List Nat) (g : TG) (tt : TT) (te : TE) : TE := fun σ H Q => wi σ H fun J H1 => ∀ D, H1 D = none → ∃ W : Nat → Nat → St → Hp → Prop, (∃ m, W 0 m (xD n js σ) (upd H1 D (.lst []))) ∧ ∀ i m σ' H', W i m σ' H' →
  (J.stop i H' ∧ Q (.ref D) H') ∨ (J.go i H' ∧ ∃ Nx : St → Hp → Prop, (∀ σ2 H2, Nx σ2 H2 → ∃ m', m' < m ∧ W (i + 1) m' σ2 H2) ∧
    ∀ x H2, J.yld i H' x H2 → g x σ' H2 fun σ3 H3 => tt σ3 H3 fun ok H4 => if ok = true then te σ3 H4 fun y H5 => ∃ ys, H5 D = some (.lst ys) ∧ ys.length < sizeLine ∧ Nx σ3 (upd H5 D (.lst (ys ++ [y]))) else Nx σ3 H4)
theorem jj {elt tg iter : Expr} {ifs : List Expr} {pos : Pos} {g : TG} {tt : TT} {te : TE} {it : Addr} {fp : List Addr} {tn : Nat → Heap → Prop} {J : It} {Q : V → Hp → Prop} {E : Value → Shared → Prop} {RR : Value → Addr → Result → Shared → Prop}
    (L : LcOk X N n js scope cl) (hc : X.calm = true) (I : Inv X pins σ H s) (T : Turn X.prog X.w X.K tg J fp it tn) (t0 : tn 0 s.heap) (hf : ∀ b ∈ fp, FpOk X pins H b)
    (hg : ∀ C s0 H0 fp0, PG (zA X N scope cl C s0 H0 fp0) tg g) (ht : ∀ C s0 H0 fp0, PTs (zA X N scope cl C s0 H0 fp0) ifs tt) (he : ∀ C s0 H0 fp0, PE (zA X N scope cl C s0 H0 fp0) elt te)
    (hw : ∀ D, H D = none → ∃ W : Nat → Nat → St → Hp → Prop, (∃ m, W 0 m (xD n js σ) (upd H D (.lst []))) ∧ ∀ i m σ' H', W i m σ' H' →
      (J.stop i H' ∧ Q (.ref D) H') ∨ (J.go i H' ∧ ∃ Nx : St → Hp → Prop, (∀ σ2 H2, Nx σ2 H2 → ∃ m', m' < m ∧ W (i + 1) m' σ2 H2) ∧
        ∀ x H2, J.yld i H' x H2 → g x σ' H2 fun σ3 H3 => tt σ3 H3 fun ok H4 => if ok = true then te σ3 H4 fun y H5 => ∃ ys, H5 D = some (.lst ys) ∧ ys.length < sizeLine ∧ Nx σ3 (upd H5 D (.lst (ys ++ [y]))) else Nx σ3 H4))
    (fin : ∀ D C σ' H' s', s.heap.objs.size ≤ C → Inv (zA X N scope cl C s H fp) [] σ' H' s' → Q (.ref D) H' → RR (.ref D) C (.ok .next) s') :
    wpAny (model X.prog X.w) X.A (newList []) (fun acc s1 => wpAny (model X.prog X.w) X.A (newFunctionEnv scope X.env.globals cl [] X.env.qual none .none (some X.env)) (fun cenv s2 =>
      codeAny (model X.prog X.w) X.A (.compStart (.ListComp elt [⟨tg, iter, ifs, 0⟩] scope pos) 0 (.ref it) acc { cenv with scope := relabel scope X.env }) (RR acc cenv.locals) s2) E s1) E s := by
  refine wpAny_newObj_type (wpAny_newFunctionEnv L.nocell (by intro y hy; simp at hy) (fun h1 hn1 hs1 => ?_) L.kind)
  dsimp only at hn1 hs1 ⊢
  generalize hG : s.heap.push { cls := .type "list", dict := none, data := .seq ([] : List Value).toArray } = G at hn1 hs1 ⊢
  have eC : G.objs.size = s.heap.objs.size + 1 := by rw [← hG, Heap.size_push]
  have hC : s.heap.objs.size ≤ G.objs.size := by rw [eC]; exact Nat.le_succ _
  have hDC : s.heap.objs.size ≠ G.objs.size := by rw [eC]; exact Nat.ne_of_lt (Nat.lt_succ_self _)
  have hlt : ∀ b ∈ fp, b < s.heap.objs.size := fun b hb => by
    obtain ⟨o, e, _⟩ := T.obj 0 _ t0 b hb
    exact Heap.lt_size e
  have old : ∀ b o, s.heap.get? b = some o → h1.get? b = some o := fun b o e => by
    have hb := Heap.lt_size e
    exact hs1.extBut b o (Nat.ne_of_lt (Nat.lt_of_lt_of_le hb hC)) (Heap.get?_push_of_some _ (hG ▸ Heap.get?_push_of_some _ e))
  have hl : h1.get? s.heap.objs.size = some { cls := .type "list", data := .seq ([] : List Value).toArray 0 } := hs1.extBut _ _ hDC (Heap.get?_push_of_some _ (hG ▸ Heap.get?_push_size _ rfl))
  have I1 : ∀ tk, Inv (zA X N scope cl G.objs.size s H fp) [] (xD n js σ) (upd H s.heap.objs.size (.lst [])) { s with heap := h1, toks := tk } := fun tk => Inv.lc L I hf hlt (Nat.le_refl _) hC hDC hn1 old hl
  have t1 : tn 0 h1 := T.keep _ _ _ t0 fun b _ o e => old b o e
  obtain ⟨W, ⟨m0, w0⟩, step⟩ := hw s.heap.objs.size (I.hok.fresh (Nat.le_refl _))
  have fr1 : ∀ b ∈ fp, upd H s.heap.objs.size (.lst []) b = none := fun b hb => by
    rw [zb (Nat.ne_of_lt (hlt b hb))]
    exact (hf b hb).1
  have fps : ∀ {H' : Hp}, (∀ b ∈ fp, H' b = none) → ∀ b ∈ fp, FpOk (zA X N scope cl G.objs.size s H fp) [] H' b := fun {H'} hn b hb => by
    refine ⟨hn b hb, Nat.ne_of_lt (Nat.lt_of_lt_of_le (hlt b hb) hC), fun hz => ?_, .inl hb, fun x c e => (hf b hb).2.2.2.2.1 x c (L.cells x c e), fun p hp => absurd (show p ∈ ([] : List (Addr × Obj)) from hp) (by simp)⟩
    rcases List.mem_cons.mp (I.stkSub b hz) with z | z
    · exact (hf b hb).2.1 z
    · exact (hf b hb).2.2.1 z
  have loop : ∀ s0 : Shared, s0 = { s with heap := h1, toks := s.toks + ([] : List (Str × Value)).length } →
      codeAny (model X.prog X.w) X.A (.compLoop (.ListComp elt [⟨tg, iter, ifs, 0⟩] scope pos) 0 (.ref it) (.ref s.heap.objs.size) (compEnvC scope cl G.objs.size X.env)) (RR (.ref s.heap.objs.size) G.objs.size) s0 := by
    rintro s0 rfl
    refine XC (fun k s' => ∃ i σ' H', Inv (zA X N scope cl G.objs.size s H fp) [] σ' H' s' ∧ tn i s'.heap ∧ (∀ b ∈ fp, H' b = none) ∧ W i k σ' H') ?_ m0 ⟨0, _, _, I1 _, t1, fr1, w0⟩
    rintro k s3 ⟨i, σ3, H3, I3, t3, fr3, w3⟩
    rcases step i k σ3 H3 w3 with ⟨stop, qn⟩ | ⟨go, Nx, hN, body⟩
    · refine thn (T.done (zA X N scope cl G.objs.size s H fp) rfl rfl rfl hc i [] s3 σ3 H3 _ I3 (fps fr3) t3 stop) fun r s4 ⟨hr, I4⟩ => ?_
      subst hr
      exact fin _ _ σ3 H3 s4 hC I4 qn
    · refine thn (T.item (zA X N scope cl G.objs.size s H fp) rfl rfl rfl hc i [] s3 σ3 H3 _ I3 (fps fr3) t3 go) fun r s4 ⟨u, hr, h4⟩ => ?_
      subst hr
      refine thn h4 fun _ s5 ⟨x, H5, I5, r5, y5, t5, fr5⟩ => ?_
      have I5' := I5.pinned (fps fr5) (T.obj _ _ t5)
      refine thn (hg _ _ _ _ _ s5 σ3 H5 x u _ I5' r5 (body x H5 y5)) fun _ s6 ⟨σ6, H6, I6, q6⟩ => ?_
      have again : ∀ {σ7 : St} {H7 : Hp} {s7 : Shared}, Inv (zA X N scope cl G.objs.size s H fp) ([] ++ xX fp s5.heap) σ7 H7 s7 → Nx σ7 H7 →
          ∃ j, j < k ∧ ∃ i σ' H', Inv (zA X N scope cl G.objs.size s H fp) [] σ' H' s7 ∧ tn i s7.heap ∧ (∀ b ∈ fp, H' b = none) ∧ W i j σ' H' := fun {σ7 H7 s7} I7 n7 => by
        obtain ⟨m', hm, w7⟩ := hN σ7 H7 n7
        refine ⟨m', hm, i + 1, σ7, H7, I7.unpinned, T.keep _ _ _ t5 fun b hb o e => (I7.pin (b, o) (List.mem_append_right _ (List.mem_append_right _ (yN hb e)))).1, fun b hb => ?_, w7⟩
        obtain ⟨o, e, _⟩ := T.obj _ _ t5 b hb
        exact (I7.pin (b, o) (List.mem_append_right _ (List.mem_append_right _ (yN hb e)))).2.1
      refine thn (ht _ _ _ _ _ s6 σ6 H6 _ I6 q6) fun ok s7 ⟨H7, I7, q7⟩ => ?_
      cases ok with
      | false =>
        rw [if_neg (by decide)] at q7 ⊢
        exact again I7 q7
      | true =>
        rw [if_pos rfl] at q7 ⊢
        refine thn (he _ _ _ _ _ s7 σ6 H7 _ I7 q7) fun v s8 ⟨y, H8, I8, r8, ys, e8, z8, q8⟩ => ?_
        refine thn (yF _ s8 σ6 H8 (.ref s.heap.objs.size) [y] (.ref s.heap.objs.size) [v] (fun _ H9 => Nx σ6 H9) I8 rfl (.cons r8 .nil) ⟨_, ys, y, rfl, rfl, e8, z8, q8⟩) fun _ s9 ⟨_, H9, I9, _, q9⟩ => ?_
        exact again I9 q9
  exact codeAny_compStart_list (loop _ rfl) (T.self X.A 0 _ _ _ t1 (loop _ rfl))
theorem jL {elt tg iter : Expr} {ifs : List Expr} {pos : Pos} {wi : TI} {g : TG} {tt : TT} {te : TE} (L : LcOk X N n js scope cl) (hc : X.calm = true) (hi : PI X tg iter wi)
    (hg : ∀ C s0 H0 fp0, PG (zA X N scope cl C s0 H0 fp0) tg g) (ht : ∀ C s0 H0 fp0, PTs (zA X N scope cl C s0 H0 fp0) ifs tt) (he : ∀ C s0 H0 fp0, PE (zA X N scope cl C s0 H0 fp0) elt te)
    (hs : ∀ x, foldedSetIterable iter X.env x = pure x := by intro _; rfl) : PE X (.ListComp elt [⟨tg, iter, ifs, 0⟩] scope pos) (tLc wi n js g tt te) := by
  intro pins s σ H Q I h
  rw [eval_ListComp]
  refine wpAny_comprehension_free (use := none) rfl hs L.clos L.kind L.names (thn (hi pins s σ H _ I h) fun v s1 h1 => thn h1 fun itv s2 h2 => ?_)
  obtain ⟨it, fp, tn, J, H2, e, I2, T, t2, f2, hw⟩ := h2
  subst e
  refine jj (RR := fun acc C => compPost (model X.prog X.w) X.A X.xe none (EP X pins σ Q) acc C) L hc I2 T t2 f2 hg ht he hw ?_
  intro D C σ' H' s' hC I' q
  obtain ⟨m, hn, _⟩ := I'.loc
  exact ⟨m, hn, fun h' hs' => ⟨.ref D, H', I2.unlc f2 hC I' hs', rfl, q⟩⟩
theorem qk {i : Nat} {x : Str} {elt tg iter : Expr} {ifs : List Expr} {pos pos' spos : Pos} {wi : TI} {g : TG} {tt : TT} {te : TE} (hN : X.N.Nodup) (hx : X.N[i]? = some x) (hk : X.env.scope.names.lookup x = some .local)
    (L : LcOk X N n js scope cl) (hc : X.calm = true) (hi : PI X tg iter wi)
    (hg : ∀ C s0 H0 fp0, PG (zA X N scope cl C s0 H0 fp0) tg g) (ht : ∀ C s0 H0 fp0, PTs (zA X N scope cl C s0 H0 fp0) ifs tt) (he : ∀ C s0 H0 fp0, PE (zA X N scope cl C s0 H0 fp0) elt te)
    (hsw : swapsWith (.ListComp elt [⟨tg, iter, ifs, 0⟩] scope pos) (some (.Name x pos')) spos.line X.env = pure true := by rfl)
    (hs : ∀ x, foldedSetIterable iter X.env x = pure x := by intro _; rfl) : PS X (.Assign [.Name x pos'] (.ListComp elt [⟨tg, iter, ifs, 0⟩] scope pos) spos) (u5 (tLc wi n js g tt te) (vd i)) := by
  intro pins s σ H Dn I h
  rw [exec_Assign_Name_used _ _ _ _ hsw]
  refine wpAny_bind (wpAny_standAt (wpAny_bind ?_))
  show wpAny _ X.A (do let _ ← comprehension (.ListComp elt [⟨tg, iter, ifs, 0⟩] scope pos) scope X.env _ (newList []) false (eval iter X.env) (some (assign (.Name x pos') X.env))) _ _ s
  refine wpAny_bind (thn (wpAny_comprehension_free (use := some (assign (.Name x pos') X.env)) (Q := fun _ s' => SP X pins Dn .next s') rfl hs L.clos L.kind L.names (thn (hi pins s σ H _ I h) fun v s1 h1 => thn h1 fun itv s2 h2 => ?_)) fun _ s' hq => wpAny_pure (wpAny_pure hq))
  obtain ⟨it, fp, tn, J, H2, e, I2, T, t2, f2, hw⟩ := h2
  subst e
  refine jj (Q := fun x H1 => vd i x σ H1 Dn.nx) (RR := fun acc C => compPost (model X.prog X.w) X.A X.xe (some (assign (.Name x pos') X.env)) (fun _ s' => SP X pins Dn .next s') acc C) L hc I2 T t2 f2 hg ht he hw ?_
  intro D C σ' H' s' hC I' q
  obtain ⟨m, hn, _⟩ := I'.loc
  have I3 : Inv X pins σ H' s' := I2.unlc (h' := s'.heap) f2 hC I' (.refl ..)
  show wpAny _ X.A (assign (.Name x pos') X.env (.ref D)) _ X.xe s'
  refine wpAny_assign_Name (uz (v := .ref D) I3 hN hx (.inl hk) rfl (fun s4 I4 hb => ?_) (.inr hk))
  obtain ⟨a, hsa, ha⟩ := hb
  have bl : ∀ b o, s2.heap.get? b = some o → b ≠ C := fun b o e => Nat.ne_of_lt (Nat.lt_of_lt_of_le (Heap.lt_size e) hC)
  have hL : C ≠ X.env.locals := fun z => absurd (Nat.lt_of_lt_of_le I2.lt (z ▸ hC)) (Nat.lt_irrefl _)
  have hcl : ∀ y c, X.env.cells.lookup y = some c → c ≠ C := fun y c e => by
    obtain ⟨v, o, ho, _⟩ := I2.cell y c e
    exact bl c o ho
  have hCa : C ≠ a := by
    rcases ha with rfl | ha
    · exact hL
    · exact Ne.symm (hcl _ _ ha)
  exact ⟨m, hn.sameBut hsa hCa, fun h' hs' => ⟨_, H', I4.turned (h' := h') (t' := s4.toks) (it := C) (fun b o hb e => (hs'.2 b hb).trans e) I'.free hL (.inr (Nat.le_trans I2.sz hC)) hcl (fun p hp => bl _ _ (I2.pin p hp).1), q⟩⟩
end
end L2
namespace L2
open PySem PySem.Spec PyProof.Rows
structure Cal (P : Program) (w : World) (K : PySem.W.Frag) (mg : Str → Option Value) (base : Heap) (k : Nat) (x : Str) (dvs : List V) (sp : Sp) : Prop where
  ex : ∃ (f : Addr) (fd : FuncData) (ps : List Str) (ds : List Value), FnOk P w K mg base CX0 k f fd ps sp ∧ mg x = some (.ref f) ∧ PySem.W.keepIn K (.ref f) = true ∧ Binds K fd ps ds ∧ Vals dvs ds
section
variable {X : Cx} {k : Nat} {sp : Sp} {dvs : List V} {x : Str} {p pos : Pos} {e : Expr} {es : List Expr} {t : TA}
theorem zo (c : Cal X.prog X.w X.K X.mg X.base k x dvs sp) (hr : Room k X.A) (hg : Gl X x) (ha : PA X (e :: es) t) (hdb : (x == ("__debug__" : Str)) = false := by decide)
    (he : starEach (e :: es) X.env = (false, eval e X.env) :: starEach es X.env := by rfl) (hpl : (backTo pos (starEach es X.env)).any (·.1) = false := by rfl) : PE X (.Call (.Name x p) (e :: es) [] pos) (vQ sp dvs E0 t) := by
  obtain ⟨f, fd, ps, ds, F, hm, hk, hb, hd⟩ := c.ex
  exact Xy F hr hg hm hk hb hd U5 ha hdb he hpl
end
section
variable {X : Cx}
theorem qU : zY X (.builtin "isinstance") (fun xs H Q => ∃ x n t b, xs = [x, .ty n] ∧ TyOf X.K H x t ∧ PySem.W.kitOne X.K t (.type n) = some b ∧ Q (.bl b) H) := by
  intro pins s σ H xs us Q I r h
  obtain ⟨x, n, t, b, rfl, ty, e, q⟩ := h
  obtain ⟨u, c, rfl, ru, rc⟩ := r.two
  cases rc
  exact kL I ru ty e fun tk => ⟨.bl b, H, I.tok tk, rfl, q⟩
noncomputable def U7 (K : PySem.W.Frag) (H : Hp) (x : V) : Prop := ∃ n, TyOf K H x (.type n) ∧ (n = "NoneType" ∨ n = "str" ∨ n = "list" ∨ n = "tuple" ∨ n = "dict")
noncomputable def Th (K : PySem.W.Frag) (H : Hp) (x : V) : Option Int → Prop
  | some i => x = .int i
  | none => (∃ b, x = .bl b) ∨ U7 K H x
end
mutual
noncomputable def Rep (K : PySem.W.Frag) (H : Hp) : PyData → V → Prop
  | .none, x => x = .non
  | .bool b, x => x = .bl b
  | .int i, x => x = .int i
  | .str z, x => x = .str z
  | .list ds, x => ∃ a xs, x = .ref a ∧ SqL K H a xs ∧ Reps K H ds xs
  | .tuple ds, x => ∃ a xs, x = .ref a ∧ SqT K H a xs ∧ Reps K H ds xs
  | .dict kvs, x => kvs = [] ∧ ∃ a, x = .ref a ∧ Rd H a (.dK [])
noncomputable def Reps (K : PySem.W.Frag) (H : Hp) : List PyData → List V → Prop
  | [], xs => xs = []
  | d :: ds, xs => ∃ x r, xs = x :: r ∧ Rep K H d x ∧ Reps K H ds r
end
theorem SqL.same {K : PySem.W.Frag} {H H' : Hp} {a : Addr} {xs : List V} (e : Same H H') (h : SqL K H a xs) : SqL K H' a xs := e.seq h
theorem SqT.same {K : PySem.W.Frag} {H H' : Hp} {a : Addr} {xs : List V} (e : Same H H') (h : SqT K H a xs) : SqT K H' a xs := by
  rcases h with (h | ⟨o, h⟩) | h
  · exact .inl (.inl (e _ _ h))
  · exact .inl (.inr ⟨o, e _ _ h⟩)
  · exact .inr h
mutual
theorem Rep.same {K : PySem.W.Frag} {H H' : Hp} (e : Same H H') : ∀ (d : PyData) (x : V), Rep K H d x → Rep K H' d x
  | .none, _, h => h
  | .bool _, _, h => h
  | .int _, _, h => h
  | .str _, _, h => h
  | .list ds, x, h => by
    obtain ⟨a, xs, e1, h1, h2⟩ := h
    exact ⟨a, xs, e1, h1.same e, Reps.same e ds xs h2⟩
  | .tuple ds, x, h => by
    obtain ⟨a, xs, e1, h1, h2⟩ := h
    exact ⟨a, xs, e1, h1.same e, Reps.same e ds xs h2⟩
  | .dict _, _, h => by
    obtain ⟨e1, a, e2, h1⟩ := h
    refine ⟨e1, a, e2, ?_⟩
    rcases h1 with h1 | ⟨o, h1⟩
    · exact .inl (e _ _ h1)
    · exact .inr ⟨o, e _ _ h1⟩
theorem Reps.same {K : PySem.W.Frag} {H H' : Hp} (e : Same H H') : ∀ (ds : List PyData) (xs : List V), Reps K H ds xs → Reps K H' ds xs
  | [], _, h => h
  | d :: ds, xs, h => by
    obtain ⟨x, r, e1, h1, h2⟩ := h
    exact ⟨x, r, e1, Rep.same e d x h1, Reps.same e ds r h2⟩
end
theorem Reps.length {K : PySem.W.Frag} {H : Hp} : ∀ {ds : List PyData} {xs : List V}, Reps K H ds xs → ds.length = xs.length
  | [], xs, h => by
    cases (show xs = [] from h)
    rfl
  | d :: ds, _, h => by
    obtain ⟨x, r, rfl, _, h2⟩ := h
    rw [List.length_cons, List.length_cons, h2.length]
theorem Reps.get {K : PySem.W.Frag} {H : Hp} : ∀ {ds : List PyData} {xs : List V} (i : Nat) {x : V}, Reps K H ds xs → xs[i]? = some x → ∃ d, ds[i]? = some d ∧ Rep K H d x
  | [], _, i, x, h, e => by
    rw [show _ = _ from h] at e
    cases e
  | d :: ds, _, i, x, h, e => by
    obtain ⟨y, r, rfl, h1, h2⟩ := h
    cases i with
    | zero =>
      cases e
      exact ⟨d, rfl, h1⟩
    | succ i =>
      obtain ⟨d', e', h'⟩ := h2.get i (x := x) (by simpa using e)
      exact ⟨d', by simpa using e', h'⟩
theorem Reps.snoc {K : PySem.W.Frag} {H : Hp} : ∀ {ds : List PyData} {xs : List V} {d : PyData} {x : V}, Reps K H ds xs → Rep K H d x → Reps K H (ds ++ [d]) (xs ++ [x])
  | [], _, d, x, h, h' => by
    rw [show _ = _ from h]
    exact ⟨x, [], rfl, h', rfl⟩
  | d0 :: ds, _, d, x, h, h' => by
    obtain ⟨y, r, rfl, h1, h2⟩ := h
    exact ⟨y, r ++ [x], rfl, h1, h2.snoc h'⟩
mutual
theorem Rep.reads {X : Cx} {pins : List (Addr × Obj)} {σ : St} {H : Hp} {s : Shared} (I : Inv X pins σ H s) : ∀ (d : PyData) (x : V) (u : Value), Rep X.K H d x → RelV x u → ∃ as, Reads s.heap u d as
  | .none, x, u, h, r => by
    cases (show x = V.non from h)
    cases r
    exact ⟨_, .none⟩
  | .bool b, x, u, h, r => by
    cases (show x = V.bl b from h)
    cases r
    exact ⟨_, .bool b⟩
  | .int i, x, u, h, r => by
    cases (show x = V.int i from h)
    obtain ⟨t, rfl⟩ := r
    exact ⟨_, .int i t⟩
  | .str z, x, u, h, r => by
    cases (show x = V.str z from h)
    obtain ⟨t, rfl⟩ := r
    exact ⟨_, .str z t⟩
  | .list ds, x, u, h, r => by
    obtain ⟨a, xs, rfl, h1, h2⟩ := h
    cases r
    obtain ⟨its, rv, ⟨o, n, e, c, _, dt⟩, _⟩ := I.list h1
    obtain ⟨as, q⟩ := Reps.reads I ds xs its h2 rv
    exact ⟨_, .list e c dt (by simpa using q)⟩
  | .tuple ds, x, u, h, r => by
    obtain ⟨a, xs, rfl, h1, h2⟩ := h
    cases r
    obtain ⟨its, rv, ⟨o, e, c, n, dt⟩, _⟩ := I.tuple h1
    obtain ⟨as, q⟩ := Reps.reads I ds xs its h2 rv
    exact ⟨_, .tuple e c dt (by simpa using q)⟩
  | .dict kvs, x, u, h, r => by
    obtain ⟨rfl, a, rfl, h1⟩ := h
    cases r
    obtain ⟨_, _, vs, kv, dd⟩ := (show zB X.prog X.w H s.heap a (.dK []) from h1.ok I.hok)
    cases kv
    obtain ⟨o, es, ep, h2, h3, h4, _, h5, _⟩ := dd
    have e0 : es = #[] := by
      have := h5.length
      exact Array.eq_empty_of_size_eq_zero (by simpa using this)
    subst e0
    exact ⟨_, .dict h2 h3.1 h4 .nil .nil⟩
theorem Reps.reads {X : Cx} {pins : List (Addr × Obj)} {σ : St} {H : Hp} {s : Shared} (I : Inv X pins σ H s) : ∀ (ds : List PyData) (xs : List V) (us : List Value), Reps X.K H ds xs → Vals xs us → ∃ as, ReadsAll s.heap us ds as
  | [], xs, us, h, r => by
    cases (show xs = [] from h)
    cases r
    exact ⟨_, .nil⟩
  | d :: ds, xs, us, h, r => by
    obtain ⟨x, zE, rfl, h1, h2⟩ := h
    cases r with
    | cons r1 r2 =>
      obtain ⟨as, q⟩ := Rep.reads I d x _ h1 r1
      obtain ⟨bs, q2⟩ := Reps.reads I ds zE _ h2 r2
      exact ⟨_, .cons q q2⟩
end
section
variable {X : Cx}
noncomputable def jM (K : PySem.W.Frag) : R2 := fun x y H Q => ∃ d e, Rep K H d x ∧ Rep K H e y ∧ SeqAt.shaped d = true ∧ SeqAt.shaped e = true ∧ Q (.bl (PyData.eqv d e)) H
noncomputable def ZJ (K : PySem.W.Frag) : R2 := fun x y H Q => ∃ d e, Rep K H d x ∧ Rep K H e y ∧ SeqAt.shaped d = true ∧ SeqAt.shaped e = true ∧ Q (.bl (!PyData.eqv d e)) H
theorem VR (hu : X.A.units + 64 < cLine) : OpR X (compareOp .Eq) (jM X.K) := by
  intro pins s σ H x y v u Q I rx ry h
  obtain ⟨d, e, h1, h2, s1, s2, q⟩ := h
  obtain ⟨as, r1⟩ := Rep.reads I d x v h1 rx
  obtain ⟨bs, r2⟩ := Rep.reads I e y u h2 ry
  exact eq_dataH r1 r2 s1 s2 hu ⟨.bl _, H, I, rfl, q⟩
theorem VS (hu : X.A.units + 64 < cLine) : OpR X (compareOp .NotEq) (ZJ X.K) := by
  intro pins s σ H x y v u Q I rx ry h
  obtain ⟨d, e, h1, h2, s1, s2, q⟩ := h
  obtain ⟨as, r1⟩ := Rep.reads I d x v h1 rx
  obtain ⟨bs, r2⟩ := Rep.reads I e y u h2 ry
  exact ne_dataH r1 r2 s1 s2 hu ⟨.bl _, H, I, rfl, q⟩
end
end L2
namespace L2
open PySem PySem.Spec PyProof.Rows
noncomputable def kT : Expr → Bool
  | .Starred .. => false
  | _ => true
theorem uP {e : Expr} {es : List Expr} {env : Env} (h : kT e = true) : starEach (e :: es) env = (false, eval e env) :: starEach es env := by
  cases e <;> first | rfl | cases h
structure QA (X : Cx) (es : List Expr) (t : TA) : Prop where
  pa : PA X es t
theorem qn {X : Cx} : QA X [] u8 := ⟨VG⟩
theorem qc {X : Cx} {e : Expr} {es : List Expr} {te : TE} {t : TA} (ha : PE X e te) (hr : QA X es t) (h : kT e = true := by rfl) : QA X (e :: es) (xC te t) := ⟨Xx ha hr.pa (uP h)⟩
theorem yw {X : Cx} {es : List Expr} {t : TA} {pos : Pos} (h : QA X es t) : PE X (.List es pos) (jH t) := kM h.pa
theorem z9 {X : Cx} {es : List Expr} {t : TA} {pos : Pos} {k : Nat} (h : QA X es t) : PE X (.Tuple es k pos) (u9 t) := qa h.pa
noncomputable def Sm (a : Int) : Prop := -1000000000000 ≤ a ∧ a ≤ 1000000000000
theorem Sm.mulL {a b : Int} (h : Sm a) : uk a b := .inl ⟨Int.lt_of_lt_of_le (by decide) h.1, Int.lt_of_le_of_lt h.2 (by decide)⟩
theorem Sm.mulR {a b : Int} (h : Sm b) : uk a b := .inr ⟨Int.lt_of_lt_of_le (by decide) h.1, Int.lt_of_le_of_lt h.2 (by decide)⟩
theorem XE {a b : Int} (h1 : -1000000000000 ≤ a) (h2 : a ≤ 1000000000000) : uk a b := Sm.mulL ⟨h1, h2⟩
theorem ZK {a b : Int} (h1 : -1000000000000 ≤ b) (h2 : b ≤ 1000000000000) : uk a b := Sm.mulR ⟨h1, h2⟩
theorem zZ {H : Hp} {p : Addr} {o : HO} (hp : H p = none) : Same H (upd H p o) := fun b u e => by
  rw [zb (zy e hp)]
  exact e
theorem xE {H H' : Hp} {r : Addr} {o : HO} (hs : Same H H') (hr : H r = none) : Same H (upd H' r o) := fun b u e => by
  rw [zb (zy e hr)]
  exact hs b u e
noncomputable def vT (n : Nat) (g : TG) (tb : TS) (D : Ends) (σ : St) (H : Hp) : Prop := ∃ W : Nat → Nat → St → Hp → Prop, (∃ m, W 0 m σ H) ∧ ∀ i m σ H, W i m σ H →
  ((Itr 0 n).stop i H ∧ D.nx σ H) ∨ ((Itr 0 n).go i H ∧ ∃ N : St → Hp → Prop, (∀ σ' H', N σ' H' → ∃ m', m' < m ∧ W (i + 1) m' σ' H') ∧ ∀ x H', (Itr 0 n).yld i H x H' → g x σ H' fun σ2 H2 => tb { D with nx := N, ct := N, bk := D.nx } σ2 H2)
theorem vT.by {n : Nat} {g : TG} {tb : TS} {D : Ends} {σ : St} {H : Hp} (Pv : Nat → St → Hp → Prop) (h0 : Pv 0 σ H)
    (hs : ∀ i σ H, i < n → Pv i σ H → g (.int i) σ H fun σ2 H2 => tb { D with nx := Pv (i + 1), ct := Pv (i + 1), bk := D.nx } σ2 H2) (hd : ∀ σ H, Pv n σ H → D.nx σ H) : vT n g tb D σ H :=
  kI (lo := 0) (n := n) Pv h0 (fun i σ H hi p => by rw [Int.zero_add]; exact hs i σ H hi p) hd
theorem vT.run {n : Nat} {g : TG} {tb : TS} {D : Ends} {σ : St} {H : Hp} (Pv : Nat → St → Hp → Prop) (h0 : Pv 0 σ H)
    (hs : ∀ i σ H, i < n → Pv i σ H → ∀ R : St → Hp → Prop, (∀ σ' H', Pv (i + 1) σ' H' → R σ' H') → g (.int i) σ H fun σ2 H2 => tb { D with nx := R, ct := R, bk := D.nx } σ2 H2) (hd : ∀ σ H, Pv n σ H → D.nx σ H) : vT n g tb D σ H :=
  vT.by Pv h0 (fun i σ H hi p => hs i σ H hi p _ fun _ _ z => z) hd
noncomputable def vV (K : PySem.W.Frag) (a : Addr) (g : TG) (tb : TS) (D : Ends) (σ : St) (H : Hp) : Prop := ∃ W : Nat → Nat → St → Hp → Prop, (∃ m, W 0 m σ H) ∧ ∀ i m σ H, W i m σ H →
  ((Itl K a).stop i H ∧ D.nx σ H) ∨ ((Itl K a).go i H ∧ ∃ N : St → Hp → Prop, (∀ σ' H', N σ' H' → ∃ m', m' < m ∧ W (i + 1) m' σ' H') ∧ ∀ x H', (Itl K a).yld i H x H' → g x σ H' fun σ2 H2 => tb { D with nx := N, ct := N, bk := D.nx } σ2 H2)
theorem vV.by {K : PySem.W.Frag} {a : Addr} {xs : List V} {g : TG} {tb : TS} {D : Ends} {σ : St} {H : Hp} (Pv : Nat → St → Hp → Prop) (h0 : Pv 0 σ H) (hl : ∀ i σ H, i ≤ xs.length → Pv i σ H → SqL K H a xs)
    (hs : ∀ i x σ H, xs[i]? = some x → Pv i σ H → g x σ H fun σ2 H2 => tb { D with nx := Pv (i + 1), ct := Pv (i + 1), bk := D.nx } σ2 H2) (hd : ∀ σ H, Pv xs.length σ H → D.nx σ H) : vV K a g tb D σ H :=
  ZD Pv h0 hl hs hd
theorem vV.run {K : PySem.W.Frag} {a : Addr} {xs : List V} {g : TG} {tb : TS} {D : Ends} {σ : St} {H : Hp} (Pv : Nat → St → Hp → Prop) (h0 : Pv 0 σ H) (hl : ∀ i σ H, i ≤ xs.length → Pv i σ H → SqL K H a xs)
    (hs : ∀ i x σ H, xs[i]? = some x → Pv i σ H → ∀ R : St → Hp → Prop, (∀ σ' H', Pv (i + 1) σ' H' → R σ' H') → g x σ H fun σ2 H2 => tb { D with nx := R, ct := R, bk := D.nx } σ2 H2) (hd : ∀ σ H, Pv xs.length σ H → D.nx σ H) : vV K a g tb D σ H :=
  vV.by Pv h0 hl (fun i x σ H hi p => hs i x σ H hi p _ fun _ _ z => z) hd
structure FunD (K : PySem.W.Frag) (x qual : Str) (st : Stmt) (ds : List Value) (f : Addr) (fd : FuncData) : Prop where
  ex : ∃ (oc : Value) (od : Option Addr) (kV doc pm : Value) (an : Option Addr) (cdv ct : Value) (osl : Array (Option Value)) (T : Addr) (oT : Obj) (n : Nat),
    fd = PySem.W.fnOf x qual (defArgs st) (defBody st) (defScope st) (.ref T) kV doc pm an cdv ct ∧ K.lookup f = some ⟨oc, od, .func fd, osl⟩ ∧ PySem.W.codeIn K cdv qual = true ∧ K.lookup T = some oT ∧ oT.data = .seq ds.toArray n
  kp : PySem.W.keepIn K (.ref f) = true
section
variable {P : Program} {w : World} {K : PySem.W.Frag} {mg : Str → Option Value} {base : Heap}
theorem FunD.ok {x qual : Str} {st : Stmt} {ds : List Value} {f : Addr} {fd : FuncData} {N ps : List Str} {k : Nat} {sp : Sp} (F : FunD K x qual st ds f fd) (S : FnScope N ps (defScope st)) (len : ∀ vs H Q E, sp vs H Q E → vs.length = ps.length)
    (hbody : ∀ (cdv : Value) (A : Around) (outer : List Env) (s : Shared) (H : Hp) (vs : List V) (Q : VK) (E : XK), Room k (A.deeper (envOfC qual (defScope st) s.heap.objs.size f cdv)) → sp vs H Q E →
      ∃ t, PSs (yS CX0 P w K mg base N qual (defScope st) f cdv A outer s H E).nox (defBody st) t ∧ t { nx := fun _ H' => Q .non H', rt := Q } (L2.start N vs) H) : FnOk P w K mg base CX0 (k + 1) f fd ps sp := by
  obtain ⟨oc, od, kV, doc, pm, an, cdv, ct, osl, T, oT, n, rfl, lk, hcd, _, _⟩ := F.ex
  refine YF lk hcd S len fun A outer s H vs Q E hr hsp => ?_
  obtain ⟨t, h, q⟩ := hbody cdv A outer s H vs Q E hr hsp
  exact ⟨t, h.nox, q⟩
theorem FunD.binds {x qual : Str} {st : Stmt} {ds es : List Value} {f : Addr} {fd : FuncData} {ps : List Str} (F : FunD K x qual st ds f fd)
    (h : ∀ (T : Addr) (kV doc pm : Value) (an : Option Addr) (cdv ct : Value) (us : List Value), (us ++ es).length = ps.length →
      ∃ k, bindArgs (PySem.W.fnOf x qual (defArgs st) (defBody st) (defScope st) (.ref T) kV doc pm an cdv ct) ⟨us, []⟩ = seqItems? (PySem.W.fnOf x qual (defArgs st) (defBody st) (defScope st) (.ref T) kV doc pm an cdv ct).defaults >>= k ∧ k (some ds.toArray) = pure (ps.zip (us ++ es))) : Binds K fd ps es := by
  obtain ⟨oc, od, kV, doc, pm, an, cdv, ct, osl, T, oT, n, rfl, lk, hcd, hT, hd⟩ := F.ex
  intro s us hK hl
  obtain ⟨k, h1, h2⟩ := h T kV doc pm an cdv ct us hl
  exact .of_defaults rfl (hK _ _ hT) hd h1 h2
end
end L2
namespace L2
open PySem PySem.Spec PyProof.Rows
theorem xh {α : Type} {x : Str} {c : α} : ∀ {l : List (Str × α)}, l.lookup x = some c → (x, c) ∈ l
  | [], h => by cases h
  | (y, d) :: l, h => by
    rw [List.lookup_cons] at h
    cases e : x == y with
    | true =>
      rw [e] at h
      have h1 : x = y := by simpa using e
      have h2 : d = c := Option.some.inj h
      rw [h1, h2]
      exact List.mem_cons_self
    | false =>
      rw [e] at h
      exact List.mem_cons_of_mem _ (xh h)
noncomputable def uo (k : Option NameKind) : Bool := match k with
  | some .cell => true
  | some .free => true
  | _ => false
theorem jk {k : Option NameKind} (h : uo k = true) : k = some .cell ∨ k = some .free := by
  unfold uo at h
  split at h
  · exact .inl rfl
  · exact .inr rfl
  · cases h
inductive CellsIn (big : List (Str × Addr)) : List (Str × Addr) → Prop
  | nil : CellsIn big []
  | cons {x : Str} {c : Addr} {l : List (Str × Addr)} : big.lookup x = some c → CellsIn big l → CellsIn big ((x, c) :: l)
theorem CellsIn.mem {big : List (Str × Addr)} {x : Str} {c : Addr} : ∀ {l : List (Str × Addr)}, CellsIn big l → (x, c) ∈ l → big.lookup x = some c
  | _, .nil, h => by cases h
  | _, .cons e r, h => by
    rcases List.mem_cons.mp h with z | z
    · cases z
      exact e
    · exact r.mem z
theorem yT {X : Cx} {N : List Str} {n : Nat} {js : List Nat} {scope : Scope} {cl : List (Str × Addr)} (clos : closureFor scope X.env = pure cl := by rfl) (nocell : (scope.names.all fun y => !(y.2 == .cell)) = true := by rfl) (kind : scope.kind = .function := by rfl)
    (names : (scope.names.all fun y => !(y.2 == .local) || scope.names.lookup y.1 == some .local) = true := by rfl) (cells : CellsIn X.env.cells cl := by repeat' first | exact CellsIn.nil | refine CellsIn.cons rfl ?_)
    (has : ((relabel scope X.env).names.all fun y => !(uo (some y.2)) || (cl.lookup y.1).isSome) = true := by rfl) (len : n + js.length = N.length := by rfl)
    (free : ((N.drop n).zip js).all (fun p => X.N[p.2]? == some p.1 && uo (X.env.scope.names.lookup p.1) && uo ((relabel scope X.env).names.lookup p.1) && (cl.lookup p.1).isSome) = true := by rfl) : LcOk X N n js scope cl where
  clos := clos
  nocell := fun y hy e => by
    have h := List.all_eq_true.mp nocell y hy
    rw [e] at h
    cases h
  kind := kind
  names := fun y hy e => by
    have h := List.all_eq_true.mp names y hy
    rw [e] at h
    simpa using h
  cells := fun x c h => cells.mem (xh h)
  has := fun x h => by
    have key : ∀ k, (relabel scope X.env).names.lookup x = some k → uo (some k) = true → ∃ c, cl.lookup x = some c := fun k e hk => by
      have h1 := List.all_eq_true.mp has (x, k) (xh e)
      rw [hk] at h1
      exact Option.isSome_iff_exists.mp (by simpa using h1)
    rcases h with h | h
    · exact key _ h rfl
    · exact key _ h rfl
  len := len
  free := fun i x h => by
    have hd : (N.drop n)[i]? = some x := by rw [List.getElem?_drop]; exact h
    have hi : i < (N.drop n).length := (List.getElem?_eq_some_iff.mp hd).1
    have hj : i < js.length := by rw [List.length_drop] at hi; omega
    have hz : ((N.drop n).zip js)[i]? = some (x, js[i]) := by
      rw [List.getElem?_zip_eq_some]
      exact ⟨hd, List.getElem?_eq_getElem hj⟩
    have h1 := List.all_eq_true.mp free (x, js[i]) (List.mem_of_getElem? hz)
    simp only [Bool.and_eq_true, beq_iff_eq] at h1
    obtain ⟨⟨⟨a1, a2⟩, a3⟩, a4⟩ := h1
    obtain ⟨c, hc⟩ := Option.isSome_iff_exists.mp a4
    exact ⟨js[i], c, List.getElem?_eq_getElem hj, a1, jk a2, jk a3, hc⟩
noncomputable def LcL (K : PySem.W.Frag) (a : Addr) (g : TG) (tt : TT) (te : TE) (σ0 : St) (H1 : Hp) (Q : VK) : Prop := ∀ D, H1 D = none → ∃ W : Nat → Nat → St → Hp → Prop, (∃ m, W 0 m σ0 (upd H1 D (.lst []))) ∧ ∀ i m σ' H', W i m σ' H' →
  ((Itl K a).stop i H' ∧ Q (.ref D) H') ∨ ((Itl K a).go i H' ∧ ∃ Nx : St → Hp → Prop, (∀ σ2 H2, Nx σ2 H2 → ∃ m', m' < m ∧ W (i + 1) m' σ2 H2) ∧
    ∀ x H2, (Itl K a).yld i H' x H2 → g x σ' H2 fun σ3 H3 => tt σ3 H3 fun ok H4 => if ok = true then te σ3 H4 fun y H5 => ∃ ys, H5 D = some (.lst ys) ∧ ys.length < sizeLine ∧ Nx σ3 (upd H5 D (.lst (ys ++ [y]))) else Nx σ3 H4)
theorem LcL.by {K : PySem.W.Frag} {a : Addr} {xs : List V} {g : TG} {tt : TT} {te : TE} {σ0 : St} {H1 : Hp} {Q : VK} (Pv : Addr → Nat → St → Hp → Prop) (h0 : ∀ D, H1 D = none → Pv D 0 σ0 (upd H1 D (.lst [])))
    (hl : ∀ D i σ H, H1 D = none → i ≤ xs.length → Pv D i σ H → SqL K H a xs)
    (hs : ∀ D i x σ H, H1 D = none → xs[i]? = some x → Pv D i σ H → g x σ H fun σ3 H3 => tt σ3 H3 fun ok H4 => if ok = true then te σ3 H4 fun y H5 => ∃ ys, H5 D = some (.lst ys) ∧ ys.length < sizeLine ∧ Pv D (i + 1) σ3 (upd H5 D (.lst (ys ++ [y]))) else Pv D (i + 1) σ3 H4)
    (hd : ∀ D σ H, H1 D = none → Pv D xs.length σ H → Q (.ref D) H) : LcL K a g tt te σ0 H1 Q := by
  intro D hD
  refine ⟨fun i m σ H => m = xs.length - i ∧ i ≤ xs.length ∧ Pv D i σ H, ⟨xs.length, by simp, Nat.zero_le _, h0 D hD⟩, ?_⟩
  rintro i m σ H ⟨rfl, hi, p⟩
  have q := hl D i σ H hD hi p
  by_cases hlt : i < xs.length
  · refine .inr ⟨⟨xs, xs[i], q, by simp [hlt]⟩, Pv D (i + 1), fun σ' H' p' => ⟨xs.length - (i + 1), by omega, rfl, hlt, p'⟩, fun x H' y => ?_⟩
    obtain ⟨e, y⟩ := y
    subst e
    exact hs D i x σ _ hD (y xs q) p
  · have e : i = xs.length := by omega
    subst e
    exact .inl ⟨⟨xs, q, Nat.le_refl _⟩, hd D σ H hD p⟩
noncomputable def LcR (n0 : Nat) (g : TG) (tt : TT) (te : TE) (σ0 : St) (H1 : Hp) (Q : VK) : Prop := ∀ D, H1 D = none → ∃ W : Nat → Nat → St → Hp → Prop, (∃ m, W 0 m σ0 (upd H1 D (.lst []))) ∧ ∀ i m σ' H', W i m σ' H' →
  ((Itr 0 n0).stop i H' ∧ Q (.ref D) H') ∨ ((Itr 0 n0).go i H' ∧ ∃ Nx : St → Hp → Prop, (∀ σ2 H2, Nx σ2 H2 → ∃ m', m' < m ∧ W (i + 1) m' σ2 H2) ∧
    ∀ x H2, (Itr 0 n0).yld i H' x H2 → g x σ' H2 fun σ3 H3 => tt σ3 H3 fun ok H4 => if ok = true then te σ3 H4 fun y H5 => ∃ ys, H5 D = some (.lst ys) ∧ ys.length < sizeLine ∧ Nx σ3 (upd H5 D (.lst (ys ++ [y]))) else Nx σ3 H4)
theorem LcR.by {n0 : Nat} {g : TG} {tt : TT} {te : TE} {σ0 : St} {H1 : Hp} {Q : VK} (Pv : Addr → Nat → St → Hp → Prop) (h0 : ∀ D, H1 D = none → Pv D 0 σ0 (upd H1 D (.lst [])))
    (hs : ∀ D i σ H, H1 D = none → i < n0 → Pv D i σ H → g (.int i) σ H fun σ3 H3 => tt σ3 H3 fun ok H4 => if ok = true then te σ3 H4 fun y H5 => ∃ ys, H5 D = some (.lst ys) ∧ ys.length < sizeLine ∧ Pv D (i + 1) σ3 (upd H5 D (.lst (ys ++ [y]))) else Pv D (i + 1) σ3 H4)
    (hd : ∀ D σ H, H1 D = none → Pv D n0 σ H → Q (.ref D) H) : LcR n0 g tt te σ0 H1 Q := by
  intro D hD
  refine ⟨fun i m σ H => m = n0 - i ∧ i ≤ n0 ∧ Pv D i σ H, ⟨n0, by simp, Nat.zero_le _, h0 D hD⟩, ?_⟩
  rintro i m σ H ⟨rfl, hi, p⟩
  by_cases hlt : i < n0
  · refine .inr ⟨hlt, Pv D (i + 1), fun σ' H' p' => ⟨n0 - (i + 1), by omega, rfl, hlt, p'⟩, fun x H' y => ?_⟩
    obtain ⟨e, y⟩ := y
    subst e y
    rw [Int.zero_add]
    exact hs D i σ _ hD hlt p
  · have e : i = n0 := by omega
    subst e
    exact .inl ⟨Nat.le_refl _, hd D σ H hD p⟩
end L2
namespace L2
open PySem PySem.Spec PyProof.Rows
noncomputable abbrev Cel := Str × Int
noncomputable abbrev Pict := List (List Cel)
noncomputable def zw (c : Cel) : PyData := .tuple [.str c.1, .int c.2]
noncomputable def Qw (r : List Cel) : PyData := .list (r.map zw)
noncomputable def Qx (p : Pict) : PyData := .list (p.map Qw)
noncomputable def okC (c : Cel) : Prop := PyData.strOk c.1 = true
structure IsPic (p : Pict) (w h : Nat) : Prop where
  hh : p.length = h
  ww : ∀ r ∈ p, r.length = w
  ok : ∀ r ∈ p, ∀ c ∈ r, okC c
  w1 : 1 ≤ w
  w2 : w ≤ 24
  h1 : 1 ≤ h
  h2 : h ≤ 12
theorem Reps.at {K : PySem.W.Frag} {H : Hp} : ∀ {ds : List PyData} {xs : List V} (i : Nat) {d : PyData}, Reps K H ds xs → ds[i]? = some d → ∃ x, xs[i]? = some x ∧ Rep K H d x
  | [], _, i, d, _, e => by cases e
  | d0 :: ds, _, i, d, h, e => by
    obtain ⟨y, r, rfl, h1, h2⟩ := h
    cases i with
    | zero =>
      cases e
      exact ⟨y, rfl, h1⟩
    | succ i =>
      obtain ⟨x, e', h'⟩ := h2.at i (d := d) (by simpa using e)
      exact ⟨x, by simpa using e', h'⟩
section
variable {K : PySem.W.Frag} {H : Hp}
noncomputable def y6 (p : Int × Int) : PyData := .tuple [.int p.1, .int p.2]
noncomputable def jl (l : List (Int × Int)) : PyData := .list (l.map y6)
theorem uF : ∀ l : List (Int × Int), PyData.canLayAll0 (l.map y6) = true ∧ PyData.depthAll (l.map y6) ≤ 1
  | [] => ⟨rfl, Nat.zero_le _⟩
  | p :: l => by
    obtain ⟨h1, h2⟩ := uF l
    refine ⟨?_, ?_⟩
    · simp [PyData.canLayAll0, y6, PyData.canLay0, h1]
    · simp only [List.map_cons, PyData.depthAll, y6, PyData.depth]
      omega
theorem uQ (l : List (Int × Int)) : SeqAt.shaped (jl l) = true := by
  obtain ⟨h1, h2⟩ := uF l
  simp only [SeqAt.shaped, jl, PyData.canLay0, PyData.depth, h1, Bool.true_and, decide_eq_true_eq]
  omega
end
noncomputable def yU (H : Hp) : List (Int × Int) → List V → Prop
  | [], xs => xs = []
  | p :: l, xs => ∃ t r, xs = .ref t :: r ∧ H t = some (.tup [.int p.1, .int p.2]) ∧ yU H l r
theorem yU.same {H H' : Hp} (e : ∀ b xs, H b = some (.tup xs) → H' b = some (.tup xs)) : ∀ {l : List (Int × Int)} {xs : List V}, yU H l xs → yU H' l xs
  | [], _, h => h
  | p :: l, _, h => by
    obtain ⟨t, r, e1, h1, h2⟩ := h
    exact ⟨t, r, e1, e _ _ h1, h2.same e⟩
theorem yU.length {H : Hp} : ∀ {l : List (Int × Int)} {xs : List V}, yU H l xs → xs.length = l.length
  | [], _, h => by rw [show _ = [] from h]; rfl
  | p :: l, _, h => by
    obtain ⟨t, r, rfl, _, h2⟩ := h
    rw [List.length_cons, List.length_cons, h2.length]
theorem yU.snoc {H : Hp} {p : Int × Int} {t : Addr} (ht : H t = some (.tup [.int p.1, .int p.2])) : ∀ {l : List (Int × Int)} {xs : List V}, yU H l xs → yU H (l ++ [p]) (xs ++ [.ref t])
  | [], _, h => by
    rw [show _ = [] from h]
    exact ⟨t, [], rfl, ht, rfl⟩
  | q :: l, _, h => by
    obtain ⟨u, r, rfl, h1, h2⟩ := h
    exact ⟨u, r ++ [.ref t], rfl, h1, h2.snoc ht⟩
theorem yU.at {H : Hp} : ∀ {l : List (Int × Int)} {xs : List V} (i : Nat) {x : V}, yU H l xs → xs[i]? = some x → ∃ (t : Addr) (p : Int × Int), x = .ref t ∧ H t = some (.tup [.int p.1, .int p.2])
  | [], _, i, x, h, e => by
    rw [show _ = [] from h] at e
    cases e
  | p :: l, _, i, x, h, e => by
    obtain ⟨t, r, rfl, h1, h2⟩ := h
    cases i with
    | zero =>
      cases e
      exact ⟨t, p, rfl, h1⟩
    | succ i => exact h2.at i (by simpa using e)
noncomputable def yV (p : Pict) (i j : Nat) : Cel := (p.getD i []).getD j (Str.ofString "", 0)
theorem ZL {p : Pict} {w h : Nat} (ip : IsPic p w h) {i j : Nat} (hi : i < h) (hj : j < w) : ∃ r, p[i]? = some r ∧ r.length = w ∧ r[j]? = some (yV p i j) ∧ okC (yV p i j) := by
  have hl : i < p.length := by rw [ip.hh]; exact hi
  have hm : p[i] ∈ p := List.getElem_mem hl
  have hw := ip.ww _ hm
  have hj' : j < p[i].length := by rw [hw]; exact hj
  have e : yV p i j = p[i][j] := by
    unfold yV
    have e1 : p.getD i [] = p[i] := by rw [List.getD_eq_getElem?_getD, List.getElem?_eq_getElem hl, Option.getD_some]
    rw [e1, List.getD_eq_getElem?_getD, List.getElem?_eq_getElem hj', Option.getD_some]
  refine ⟨p[i], List.getElem?_eq_getElem hl, hw, ?_, ?_⟩
  · rw [e, List.getElem?_eq_getElem hj']
  · rw [e]
    exact ip.ok _ hm _ (List.getElem_mem hj')
end L2
namespace L2
open PySem PySem.Spec PyProof.Rows
noncomputable def Bld (K : PySem.W.Frag) (H0 H : Hp) (av : List Addr) (r : Addr) (ds : List PyData) : Prop := ∃ G vs, Same H0 G ∧ Same G H ∧ (∀ b ∈ r :: av, G b = none) ∧ H r = some (.lst vs) ∧ Reps K G ds vs
section
variable {K : PySem.W.Frag} {H0 H H1 : Hp} {av : List Addr} {r t l : Addr} {ds es : List PyData} {d : PyData}
theorem Bld.new (hs : Same H0 H) (ha : ∀ b ∈ av, H0 b = none) (hr : H r = none) : Bld K H0 (upd H r (.lst [])) av r [] := by
  refine ⟨H0, [], fun _ _ e => e, xE hs (hs.free hr), fun b hb => ?_, zh, rfl⟩
  rcases List.mem_cons.mp hb with z | z
  · rw [z]
    exact hs.free hr
  · exact ha b z
theorem Bld.same (b : Bld K H0 H av r ds) (hs : Same H H1) : Bld K H0 H1 av r ds := by
  obtain ⟨G, vs, h1, h2, h3, h4, h5⟩ := b
  exact ⟨G, vs, h1, h2.trans hs, h3, hs _ _ h4, h5⟩
theorem Bld.base (b : Bld K H0 H av r ds) : Same H0 H := by
  obtain ⟨G, vs, h1, h2, _⟩ := b
  exact h1.trans h2
theorem Bld.lst (b : Bld K H0 H av r ds) : ∃ vs, H r = some (.lst vs) ∧ vs.length = ds.length := by
  obtain ⟨G, vs, h1, h2, h3, h4, h5⟩ := b
  exact ⟨vs, h4, h5.length.symm⟩
theorem Bld.tup {cs vs : List V} (b : Bld K H0 H av r ds) (hv : H r = some (.lst vs)) (ha : ∀ c ∈ av, ∃ o, H c = some o) (ht : H t = none) (hc : ∀ G, Reps K G es cs) :
    Bld K H0 (upd (upd H t (.tup cs)) r (.lst (vs ++ [.ref t]))) av r (ds ++ [.tuple es]) := by
  obtain ⟨G, ws, h1, h2, h3, h4, h5⟩ := b
  rw [hv] at h4
  cases h4
  have nr : t ≠ r := fun z => by rw [z, hv] at ht; cases ht
  have gt : G t = none := h2.free ht
  refine ⟨upd G t (.tup cs), _, h1.trans (zZ gt), fun c o q => ?_, fun c hc' => ?_, zh, ?_⟩
  · by_cases z : c = t
    · rw [z] at q ⊢
      rw [zh] at q
      rw [zb nr, zh]
      exact q
    · rw [zb z] at q
      have nc : c ≠ r := fun y => by rw [y, h3 r List.mem_cons_self] at q; cases q
      rw [zb nc, zb z]
      exact h2 _ _ q
  · have nc : c ≠ t := fun y => by
      rcases List.mem_cons.mp hc' with z | z
      · exact nr (y.symm.trans z)
      · obtain ⟨o, q⟩ := ha c z
        rw [y, ht] at q
        cases q
    rw [zb nc]
    exact h3 c hc'
  · exact (Reps.same (zZ gt) _ _ h5).snoc ⟨t, cs, rfl, SqT.of zh, hc _⟩
theorem Bld.row {vs : List V} {G : Hp} (h1 : Same H0 G) (h3 : ∀ b ∈ r :: av, G b = none) (h5 : Reps K G ds vs) (b : Bld K G H (r :: av) l es) (hv : H r = some (.lst vs)) (nl : ∀ c ∈ r :: av, c ≠ l) :
    Bld K H0 (upd H r (.lst (vs ++ [.ref l]))) av r (ds ++ [.list es]) := by
  obtain ⟨G2, us, k1, k2, k3, k4, k5⟩ := b
  have gl : G2 l = none := k3 l List.mem_cons_self
  have nr : l ≠ r := (nl r List.mem_cons_self).symm
  have sn : Same G2 (upd G2 l (.lst us)) := zZ gl
  refine ⟨upd G2 l (.lst us), _, (h1.trans k1).trans sn, fun c o q => ?_, fun c hc => ?_, zh, ?_⟩
  · by_cases z : c = l
    · rw [z] at q ⊢
      rw [zh] at q
      rw [zb nr, k4]
      exact q
    · rw [zb z] at q
      have nc : c ≠ r := fun y => by rw [y, k3 r (List.mem_cons_of_mem _ List.mem_cons_self)] at q; cases q
      rw [zb nc]
      exact k2 _ _ q
  · rw [zb (nl c hc)]
    exact k3 c (List.mem_cons_of_mem _ hc)
  · exact (Reps.same (k1.trans sn) _ _ h5).snoc ⟨l, us, rfl, SqL.of zh, Reps.same sn _ _ k5⟩
theorem Bld.done (b : Bld K H0 H av r ds) : Rep K H (.list ds) (.ref r) := by
  obtain ⟨G, vs, h1, h2, h3, h4, h5⟩ := b
  exact ⟨r, vs, rfl, SqL.of h4, Reps.same h2 _ _ h5⟩
end
end L2
namespace L2
open PySem PySem.Spec PyProof.Rows
noncomputable def ya (K : PySem.W.Frag) (H0 H : Hp) (r : Addr) (p : Pict) : Prop := ∃ (G : Hp) (as : List Addr), Same H0 G ∧ Same G H ∧ (∀ a ∈ r :: as, G a = none) ∧ (r :: as).Nodup ∧ H r = some (.lst (as.map V.ref)) ∧ as.length = p.length ∧
  ∀ (i : Nat) row, p[i]? = some row → ∃ a us, as[i]? = some a ∧ H a = some (.lst us) ∧ Reps K G (row.map zw) us
section
variable {K : PySem.W.Frag} {H0 H H1 : Hp} {r b t : Addr} {p : Pict} {row : List Cel}
theorem ya.new (hs : Same H0 H) (hr : H r = none) : ya K H0 (upd H r (.lst [])) r [] := by
  refine ⟨H0, [], fun _ _ e => e, xE hs (hs.free hr), fun b hb => ?_, by simp, zh, rfl, fun i row q => by simp at q⟩
  rw [List.mem_singleton.mp hb]
  exact hs.free hr
theorem ya.same (g : ya K H0 H r p) (hs : Same H H1) : ya K H0 H1 r p := by
  obtain ⟨G, as, h1, h2, h3, h4, h5, h6, h7⟩ := g
  refine ⟨G, as, h1, h2.trans hs, h3, h4, hs _ _ h5, h6, fun i row q => ?_⟩
  obtain ⟨a, us, k1, k2, k3⟩ := h7 i row q
  exact ⟨a, us, k1, hs _ _ k2, k3⟩
theorem ya.base (g : ya K H0 H r p) : Same H0 H := by
  obtain ⟨G, as, h1, h2, _⟩ := g
  exact h1.trans h2
theorem ya.lst (g : ya K H0 H r p) : ∃ vs, H r = some (.lst vs) ∧ vs.length = p.length := by
  obtain ⟨G, as, h1, h2, h3, h4, h5, h6, h7⟩ := g
  exact ⟨_, h5, by rw [List.length_map]; exact h6⟩
theorem ya.put {ys vs : List V} {H2 : Hp} (g : ya K H0 H r p) (hv : H r = some (.lst vs)) (hy : Reps K H0 (row.map zw) ys) (hb : H b = none) (hs : Same H H2) (hb2 : H2 b = some (.lst ys)) : ya K H0 (upd H2 r (.lst (vs ++ [.ref b]))) r (p ++ [row]) := by
  obtain ⟨G, as, h1, h2, h3, h4, h5, h6, h7⟩ := g
  rw [hv] at h5
  have h5 : vs = as.map V.ref := by cases h5; rfl
  subst h5
  have nb : ∀ (c : Addr) (o : HO), H c = some o → c ≠ b := fun c o q z => by
    rw [z, hb] at q
    cases q
  have inH : ∀ c ∈ as, ∃ o, H c = some o := fun c hc => by
    obtain ⟨i, hi, e⟩ := List.getElem_of_mem hc
    obtain ⟨a, us, k1, k2, _⟩ := h7 i _ (List.getElem?_eq_getElem (h6 ▸ hi))
    rw [List.getElem?_eq_getElem hi] at k1
    cases k1
    exact ⟨_, e ▸ k2⟩
  have nr := nb r _ hv
  have nin : b ∉ as := fun z => by
    obtain ⟨o, q⟩ := inH b z
    exact nb b o q rfl
  obtain ⟨n1, n2⟩ := List.nodup_cons.mp h4
  refine ⟨G, as ++ [b], h1, fun c o q => ?_, fun c hc => ?_, ?_, by rw [List.map_append]; exact zh, by simp [h6], fun i y q => ?_⟩
  · have c1 : c ≠ r := fun z => by rw [z, h3 r List.mem_cons_self] at q; cases q
    rw [zb c1]
    exact hs _ _ (h2 _ _ q)
  · rcases List.mem_cons.mp hc with z | z
    · rw [z]
      exact h3 r List.mem_cons_self
    · rcases List.mem_append.mp z with z | z
      · exact h3 c (List.mem_cons_of_mem _ z)
      · rw [List.mem_singleton.mp z]
        exact h2.free hb
  · rw [List.nodup_cons]
    refine ⟨fun z => ?_, List.nodup_append.mpr ⟨n2, by simp, fun x hx y hy z => ?_⟩⟩
    · rcases List.mem_append.mp z with z | z
      · exact n1 z
      · exact nr (List.mem_singleton.mp z)
    · rw [z, List.mem_singleton.mp hy] at hx
      exact nin hx
  · by_cases hi : i < p.length
    · rw [List.getElem?_append_left hi] at q
      obtain ⟨a, us, k1, k2, k3⟩ := h7 i y q
      have ar : a ≠ r := fun z => n1 (z ▸ List.mem_of_getElem? k1)
      exact ⟨a, us, by rw [List.getElem?_append_left (h6 ▸ hi)]; exact k1, by rw [zb ar]; exact hs _ _ k2, k3⟩
    · have e : i = p.length := by
        have := (List.getElem?_eq_some_iff.mp q).1
        simp at this
        omega
      subst e
      simp only [List.getElem?_concat_length, Option.some.injEq] at q
      subst q
      exact ⟨b, ys, by rw [← h6]; simp, by rw [zb nr.symm]; exact hb2, Reps.same h1 _ _ hy⟩
theorem ya.push {ys vs : List V} (g : ya K H0 H r p) (hv : H r = some (.lst vs)) (hy : Reps K H0 (row.map zw) ys) (hb : H b = none) : ya K H0 (upd (upd H b (.lst ys)) r (.lst (vs ++ [.ref b]))) r (p ++ [row]) := g.put hv hy hb (zZ hb) zh
theorem Reps.set {G : Hp} : ∀ {ds : List PyData} {xs : List V} (j : Nat) {d : PyData} {x : V}, Reps K G ds xs → Rep K G d x → Reps K G (ds.set j d) (xs.set j x)
  | [], _, j, d, x, h, _ => by
    rw [show _ = [] from h]
    rfl
  | d0 :: ds, _, j, d, x, h, h' => by
    obtain ⟨y, q, rfl, h1, h2⟩ := h
    cases j with
    | zero => exact ⟨x, q, rfl, h', h2⟩
    | succ j => exact ⟨y, _, rfl, h1, h2.set j h'⟩
theorem XF {c : Cel} {u : V} (h : Rep K H (zw c) u) : ∃ t, u = .ref t ∧ SqT K H t [.str c.1, .int c.2] := by
  obtain ⟨t, xs, rfl, h1, x1, q1, rfl, e1, x2, q2, rfl, e2, e3⟩ := h
  cases e1
  cases e2
  cases e3
  exact ⟨t, rfl, h1⟩
theorem ya.cell {i j : Nat} {c : Cel} (g : ya K H0 H r p) (hi : p[i]? = some row) (hj : row[j]? = some c) : ∃ vs a us t, H r = some (.lst vs) ∧ atI vs (i : Int) = some (.ref a) ∧ H a = some (.lst us) ∧ us.length = row.length ∧ atI us (j : Int) = some (.ref t) ∧ SqT K H t [.str c.1, .int c.2] ∧
    ∀ H2 t2 z n, Same H H2 → H2 t2 = none → ya K H0 (upd (upd H2 t2 (.tup [.str z, .int n])) a (.lst (us.set j (.ref t2)))) r (p.set i (row.set j (z, n))) := by
  obtain ⟨G, as, h1, h2, h3, h4, h5, h6, h7⟩ := g
  obtain ⟨a, us, k1, k2, k3⟩ := h7 i row hi
  obtain ⟨u, hu, ru⟩ := k3.at j (d := zw c) (by rw [List.getElem?_map, hj]; rfl)
  obtain ⟨t, rfl, ht⟩ := XF (Rep.same h2 _ _ ru)
  obtain ⟨n1, n2⟩ := List.nodup_cons.mp h4
  have am : a ∈ as := List.mem_of_getElem? k1
  have ar : a ≠ r := fun z => n1 (z ▸ am)
  refine ⟨_, a, us, t, h5, xt (by rw [List.getElem?_map, k1]; rfl), k2, by rw [← k3.length, List.length_map], xt hu, ht, fun H2 t2 z n hs ht2 => ?_⟩
  have nt : ∀ (b : Addr) (o : HO), H2 b = some o → b ≠ t2 := fun b o q y => by
    rw [y, ht2] at q
    cases q
  have gt : G t2 = none := (h2.trans hs).free ht2
  have sn : Same G (upd G t2 (.tup [.str z, .int n])) := zZ gt
  refine ⟨upd G t2 (.tup [.str z, .int n]), as, h1.trans sn, fun b o q => ?_, fun b hb => ?_, h4, ?_, by rw [List.length_set]; exact h6, fun i' y q => ?_⟩
  · have na : b ≠ a := fun y => by
      rw [y] at q
      by_cases w : a = t2
      · exact nt a _ (hs _ _ k2) w
      · rw [zb w, h3 a (List.mem_cons_of_mem _ am)] at q
        cases q
    rw [zb na]
    by_cases w : b = t2
    · rw [w] at q ⊢
      rw [zh] at q ⊢
      exact q
    · rw [zb w] at q ⊢
      exact hs _ _ (h2 _ _ q)
  · have nb : b ≠ t2 := by
      rcases List.mem_cons.mp hb with y | y
      · rw [y]
        exact nt r _ (hs _ _ h5)
      · obtain ⟨k, hk, e⟩ := List.getElem_of_mem y
        obtain ⟨a', us', m1, m2, _⟩ := h7 k _ (List.getElem?_eq_getElem (h6 ▸ hk))
        rw [List.getElem?_eq_getElem hk] at m1
        cases m1
        rw [← e]
        exact nt _ _ (hs _ _ m2)
    rw [zb nb]
    exact h3 b hb
  · rw [zb ar.symm, zb (nt r _ (hs _ _ h5))]
    exact hs _ _ h5
  · by_cases e : i' = i
    · subst e
      have hl : i' < p.length := (List.getElem?_eq_some_iff.mp hi).1
      rw [List.getElem?_set_self hl] at q
      cases q
      refine ⟨a, _, k1, zh, ?_⟩
      rw [List.map_set]
      exact (Reps.same sn _ _ k3).set j ⟨t2, _, rfl, SqT.of zh, .str z, _, rfl, rfl, .int n, [], rfl, rfl, rfl⟩
    · rw [List.getElem?_set_ne (Ne.symm e)] at q
      obtain ⟨a', us', m1, m2, m3⟩ := h7 i' y q
      have na : a' ≠ a := fun w => by
        rw [w] at m1
        have l1 := (List.getElem?_eq_some_iff.mp m1)
        have l2 := (List.getElem?_eq_some_iff.mp k1)
        exact e ((List.getElem_inj n2).mp (l1.2.trans l2.2.symm))
      exact ⟨a', us', m1, by rw [zb na, zb (nt a' _ (hs _ _ m2))]; exact hs _ _ m2, Reps.same sn _ _ m3⟩
theorem ya.done (g : ya K H0 H r p) : Rep K H (Qx p) (.ref r) := by
  obtain ⟨G, as, h1, h2, h3, h4, h5, h6, h7⟩ := g
  refine ⟨r, _, rfl, SqL.of h5, ?_⟩
  clear h5 h4 h3
  induction p generalizing as with
  | nil =>
    cases as with
    | nil => rfl
    | cons _ _ => cases h6
  | cons y p ih =>
    cases as with
    | nil => cases h6
    | cons a as =>
      obtain ⟨a', us, k1, k2, k3⟩ := h7 0 y rfl
      cases k1
      exact ⟨.ref a, as.map V.ref, rfl, ⟨a, us, rfl, SqL.of k2, Reps.same h2 _ _ k3⟩, ih as (by simpa using h6) fun i z q => h7 (i + 1) z (by simpa using q)⟩
end
end L2
namespace L2
open PySem PySem.Spec PyProof.Rows
noncomputable def rLo (K : PySem.W.Frag) : List V → Hp → VK → Prop := fun xs H Q => ∃ p ys, xs = [.ref p] ∧ (SqL K H p ys ∨ SqT K H p ys) ∧ ∀ l : Addr, H l = none → Q (.ref l) (upd H l (.lst ys))
section
variable {X : Cx} {K : PySem.W.Frag}
theorem jN (h : X.K = K) : zY X (.type "list") (rLo K) := by
  subst h
  exact qh
theorem ql (h : X.K = K) : SlR X (jK K) := by
  subst h
  exact XB
theorem yt (h : X.K = K) : IxR X (jI K) := by
  subst h
  exact XA
end
end L2
namespace L2
open PySem PySem.Spec PyProof.Rows
noncomputable def ZM (K : PySem.W.Frag) : R2 := fun x y H Q => ∃ l b xs zs, x = .ref l ∧ y = .ref b ∧ SqL K H l xs ∧ SqL K H b zs ∧ xs.length + zs.length ≤ sizeLine ∧ ∀ p, H p = none → Q (.ref p) (upd H p (.lst (xs ++ zs)))
theorem qm {X : Cx} {K : PySem.W.Frag} (hK : X.K = K) : OpR X (binaryOp .Add) (ZM K) := by
  subst hK
  intro pins s σ H x y v u Q I rx ry h
  obtain ⟨l, b, xs, zs, rfl, rfl, hH, hB, hz, q⟩ := h
  cases rx
  cases ry
  obtain ⟨its, r, ⟨o1, n1, e1, c1, d1, m1⟩, z1⟩ := I.list hH
  obtain ⟨ita, r2, ⟨o2, n2, e2, c2, d2, m2⟩, z2⟩ := I.list hB
  obtain ⟨g1, g2, g3, g4⟩ := o1
  obtain ⟨f1, f2, f3, f4⟩ := o2
  simp only at c1 d1 m1 c2 d2 m2
  subst c1 d1 m1 c2 d2 m2
  have hs : its.length + ita.length ≤ sizeLine := by
    rw [← r.length, ← r2.length]
    exact hz
  have ea : its.toArray ++ ita.toArray = (its ++ ita).toArray := by simp
  refine concat_meets ⟨_, e1, rfl⟩ ⟨_, e2, rfl⟩ noFill_list_add seq_list_add F.slot_list_add F.entry_list_add (F.args_list_add_2 _ _) (list_addW l b its.toArray ita.toArray n1 n2 none none g4 f4 (by simpa using hs)) ⟨e1, e2, ?_⟩
  rw [ea]
  exact ⟨.ref _, _, I.lnew (t' := s.toks) (r.append r2) (by rw [List.length_append]; omega), rfl, q _ I.fresh⟩
theorem Reps.drop {K : PySem.W.Frag} {H : Hp} : ∀ {ds : List PyData} {xs : List V} (k : Nat), Reps K H ds xs → Reps K H (ds.drop k) (xs.drop k)
  | [], _, k, h => by
    rw [show _ = [] from h]
    simp only [List.drop_nil]
    rfl
  | d :: ds, _, k, h => by
    obtain ⟨y, q, rfl, h1, h2⟩ := h
    cases k with
    | zero => exact ⟨y, q, rfl, h1, h2⟩
    | succ k => exact h2.drop k
theorem Reps.take {K : PySem.W.Frag} {H : Hp} : ∀ {ds : List PyData} {xs : List V} (k : Nat), Reps K H ds xs → Reps K H (ds.take k) (xs.take k)
  | [], _, k, h => by
    rw [show _ = [] from h]
    simp only [List.take_nil]
    rfl
  | d :: ds, _, k, h => by
    obtain ⟨y, q, rfl, h1, h2⟩ := h
    cases k with
    | zero => rfl
    | succ k => exact ⟨y, _, rfl, h1, h2.take k⟩
theorem Reps.append {K : PySem.W.Frag} {H : Hp} : ∀ {ds es : List PyData} {xs ys : List V}, Reps K H ds xs → Reps K H es ys → Reps K H (ds ++ es) (xs ++ ys)
  | [], _, _, _, h, h' => by
    rw [show _ = [] from h]
    exact h'
  | d :: ds, _, _, _, h, h' => by
    obtain ⟨y, q, rfl, h1, h2⟩ := h
    exact ⟨y, _, rfl, h1, h2.append h'⟩
theorem IsPic.more {p : Pict} {w h : Nat} (ip : IsPic p w h) (h2 : h < 12) : IsPic (p ++ p.take 1) w (h + 1) := by
  have hm : ∀ r, r ∈ p ++ p.take 1 → r ∈ p := fun r hr => (List.mem_append.mp hr).elim id List.mem_of_mem_take
  have := ip.h1
  exact ⟨by rw [List.length_append, List.length_take, ip.hh]; omega, fun r hr => ip.ww r (hm r hr), fun r hr => ip.ok r (hm r hr), ip.w1, ip.w2, by omega, by omega⟩
theorem IsPic.rows {p : Pict} {w h w' : Nat} (g : List Cel → List Cel) (ip : IsPic p w h) (hg : ∀ r ∈ p, (g r).length = w') (hm : ∀ r c, c ∈ g r → c ∈ r) (h1 : 1 ≤ w') (h2 : w' ≤ 24) : IsPic (p.map g) w' h := by
  refine ⟨by rw [List.length_map, ip.hh], fun r hr => ?_, fun r hr c hc => ?_, h1, h2, ip.h1, ip.h2⟩
  · obtain ⟨y, hy, rfl⟩ := List.mem_map.mp hr
    exact hg y hy
  · obtain ⟨y, hy, rfl⟩ := List.mem_map.mp hr
    exact ip.ok y hy c (hm y c hc)
noncomputable def YI (p : Pict) (h w : Nat) : Pict := (List.range w).map fun c => (List.range h).map fun i => yV p i c
theorem IsPic.turn {p : Pict} {w h : Nat} (ip : IsPic p w h) (hw : w ≤ 12) : IsPic (YI p h w) h w := by
  refine ⟨by simp [YI], fun r hr => ?_, fun r hr c hc => ?_, ip.h1, by have := ip.h2; omega, ip.w1, hw⟩
  · obtain ⟨y, _, rfl⟩ := List.mem_map.mp hr
    simp
  · obtain ⟨y, hy, rfl⟩ := List.mem_map.mp hr
    obtain ⟨i, hi, rfl⟩ := List.mem_map.mp hc
    obtain ⟨_, _, _, _, ok⟩ := ZL ip (List.mem_range.mp hi) (List.mem_range.mp hy)
    exact ok
end L2
namespace L2
open PySem PySem.Spec PyProof.Rows
noncomputable def Fly (h : Heap) (e C : Addr) (fp : List Addr) : Prop := ∃ oe vs, h.get? e = some oe ∧ (oe.cls = .ref C ∧ oe.dict = none) ∧ oe.data = .fields vs ∧ 1 < vs.size ∧
  ((vs[1]? = some .none ∧ fp = [e]) ∨ ∃ T oT ts, vs[1]? = some (.ref T) ∧ T ≠ e ∧ h.get? T = some oT ∧ oT.data = .fields ts ∧ ts[3]? = some .none ∧ fp = [e, T])
theorem Fly.mem {h : Heap} {e C : Addr} {fp : List Addr} (F : Fly h e C fp) : ∀ b ∈ fp, ∃ o vs, h.get? b = some o ∧ o.data = .fields vs := by
  obtain ⟨oe, vs, he, _, hd, _, ⟨_, rfl⟩ | ⟨T, oT, ts, _, _, hT, hdT, _, rfl⟩⟩ := F
  · intro b hb
    cases List.mem_singleton.mp hb
    exact ⟨oe, vs, he, hd⟩
  · intro b hb
    rcases List.mem_cons.mp hb with rfl | hb
    · exact ⟨oe, vs, he, hd⟩
    · cases List.mem_singleton.mp hb
      exact ⟨oT, ts, hT, hdT⟩
theorem Fly.self {h : Heap} {e C : Addr} {fp : List Addr} (F : Fly h e C fp) : e ∈ fp := by
  obtain ⟨_, _, _, _, _, _, ⟨_, rfl⟩ | ⟨_, _, _, _, _, _, _, _, rfl⟩⟩ := F <;> exact List.mem_cons_self
theorem Fly.keep {h h' : Heap} {e C : Addr} {fp : List Addr} (F : Fly h e C fp) (k : ∀ b ∈ fp, ∀ o, h.get? b = some o → h'.get? b = some o) : Fly h' e C fp := by
  have hs := F.self
  obtain ⟨oe, vs, he, hc, hd, hz, h1 | ⟨T, oT, ts, h1, h2, hT, hdT, h3, rfl⟩⟩ := F
  · exact ⟨oe, vs, k _ hs _ he, hc, hd, hz, .inl h1⟩
  · exact ⟨oe, vs, k _ hs _ he, hc, hd, hz, .inr ⟨T, oT, ts, h1, h2, k _ (by simp) _ hT, hdT, h3, rfl⟩⟩
section
variable {M : Model} {A : Around} {E : Value → Shared → Prop} {s : Shared}
structure Noted (fs fp : List Addr) (h h' : Heap) : Prop where
  keep : ∀ b o, h.get? b = some o → b ∉ fp → b ∉ fs → h'.get? b = some o
  slot : ∀ b o, h.get? b = some o → b ∉ fp → ∃ sl, h'.get? b = some { o with slots := sl }
  there : ∀ b o, h.get? b = some o → ∃ o', h'.get? b = some o'
theorem Noted.size {fs fp : List Addr} {h h' : Heap} (n : Noted fs fp h h') (hp : h'.objs.size < h.objs.size → False) : h.objs.size ≤ h'.objs.size := Nat.not_lt.mp hp
end
noncomputable def CX1 (P : Program) (w : World) : CXT := fun outer H s E ev s' => ∃ e C fp H', ev = .ref e ∧ Fly s'.heap e C fp ∧ (∀ b ∈ fp, s.heap.get? b = none ∧ H' b = none) ∧ s'.os = s.os ∧ AllBare s'.gens ∧ Un (frs outer) [] H H' s.heap s'.heap ∧ HOk P w H' s'.heap ∧ E (.ref C) none H'
noncomputable def FpX (X : Cx) (pins : List (Addr × Obj)) (H : Hp) (b : Addr) : Prop :=
  H b = none ∧ b ≠ X.env.locals ∧ b ∉ X.fs ∧ (b ∈ X.ex ∨ X.s₀.heap.get? b = none) ∧ (∀ x c, X.env.cells.lookup x = some c → c ≠ b) ∧ ∀ p ∈ X.pn ++ pins, p.1 ≠ b
theorem Inv.fpX {X : Cx} {pins : List (Addr × Obj)} {σ : St} {H H' : Hp} {s : Shared} {b : Addr} (I : Inv X pins σ H s) (hb : s.heap.get? b = none) (hn : H' b = none) : FpX X pins H' b := by
  have no : ∀ c o, s.heap.get? c = some o → c ≠ b := fun c o q z => by
    rw [z, hb] at q
    cases q
  refine ⟨hn, fun z => ?_, fun z => ?_, ?_, fun x c q => ?_, fun p hp => no _ _ (I.pin p hp).1⟩
  · obtain ⟨m, ⟨o, _, _, ho, _⟩, _⟩ := I.loc
    exact no _ _ ho z.symm
  · obtain ⟨_, o, ho, _⟩ := I.funs.mem z
    exact no _ _ ho rfl
  · by_cases hx : b ∈ X.ex
    · exact .inl hx
    · refine .inr ?_
      cases q : X.s₀.heap.get? b with
      | none => rfl
      | some o =>
        obtain ⟨o', q'⟩ := I.base.there b o q hx
        exact absurd rfl (no _ _ q')
  · obtain ⟨v, o, ho, _⟩ := I.cell x c q
    exact no _ _ ho
noncomputable def Up (X : Cx) (W : XK) (ev : Value) (s' : Shared) : Prop := ∃ pins σ H e C fp, ev = .ref e ∧ Inv X pins σ H s' ∧ Fly s'.heap e C fp ∧ (∀ b ∈ fp, FpX X pins H b) ∧ W (.ref C) none H
noncomputable def YJ (X : Cx) (W : XK) : Prop := ∀ ev s', Up X W ev s' → X.xe ev s'
theorem YJ.passes {X : Cx} {W : XK} (L : YJ X W) : vR (CX1 X.prog X.w) X W := by
  rintro pins σ H s ev s' I ⟨e, C, fp, H', rfl, F, hf, os, bare, un, hok, hw⟩
  have I' : Inv X pins σ H' s' := I.call' (ch := []) os un hok bare fun b z => absurd z (by simp)
  exact L _ _ ⟨pins, σ, H', e, C, fp, rfl, I', F, fun b hb => I.fpX (H' := H') (hf b hb).1 (hf b hb).2, hw⟩
end L2
namespace L2
open PySem PySem.W PySem.Spec PySem.Calls PyProof.Rows
section
variable {prog : Program} {w : World} {A : Around} {E : Value → Shared → Prop} {s : Shared} {K : PySem.W.Frag} {e C : Addr} {oe : Obj}
end
end L2
namespace L2
open PySem PySem.W PySem.Spec PySem.Calls PyProof.Rows
structure XMake (K : PySem.W.Frag) (C : Addr) : Prop where
  ex : ∃ B nid iid bmB, ExcBaseFacts B nid iid bmB ∧ excIn K C bmB nid = true
theorem XMake.obj {K : PySem.W.Frag} {C : Addr} {h : Heap} (m : XMake K C) (X : K.In h) : ∃ B nid iid bmB, ExcBaseFacts B nid iid bmB ∧ ∃ bm ns nm qn bs hd sn sub ab col dd k0 k1 k2 k3 k5 mN,
    h.get? C = some (excClassObj nm qn C ns bs bm hd sn sub ab col dd k0 k1 k2 k3 k5 nid) ∧ h.Ns ns mN ∧ mN "__init__" = none ∧ OwnTail h bmB bm := by
  obtain ⟨B, nid, iid, bmB, F, z⟩ := m.ex
  refine ⟨B, nid, iid, bmB, F, ?_⟩
  unfold excIn at z
  split at z
  · rename_i d0 c0 s0 lk0
    split at z
    · rename_i A0 tl j0 j1 j2 j3 nm0 j5 hm0 hs0
      rw [Bool.and_eq_true, Bool.and_eq_true, Bool.and_eq_true, Bool.and_eq_true, Bool.and_eq_true] at z
      obtain ⟨⟨⟨⟨⟨z1, z2⟩, z3⟩, z4⟩, z5⟩, z6⟩ := z
      rw [beq_iff_eq.mp z1] at hm0
      rw [beq_iff_eq.mp z2] at hs0
      obtain ⟨n0, b0, r0, y0, q0, h0, t0, u0, a0, l0, del0⟩ := c0
      have e3 : del0 = false := by simpa using z3
      have e1 : r0 = .ref C :: tl := hm0
      have e2 : s0 = #[j0, j1, j2, j3, some (.builtin nid), j5] := by
        cases s0
        exact congrArg Array.mk hs0
      subst e1 e2 e3
      have g1 := Heap.Ns.of_isNs (isNs_of_in X z5)
      have g2 := nsMap_none_of_in X z5 (beq_iff_eq.mp z6)
      exact ⟨tl, y0, n0, q0, b0, h0, t0, u0, a0, l0, d0, j0, j1, j2, j3, j5, _, X _ _ lk0, g1, g2, tail_of_in X z4⟩
    · cases z
  · cases z
end L2
namespace L2
open PySem PySem.W PySem.Spec PySem.Calls PyProof.Rows
noncomputable abbrev Cx.suite (X : Cx) (pins : List (Addr × Obj)) (e : Addr) : Cx := { X with A := X.A.mark (some (.ref e)), calm := false, pn := X.pn ++ pins, xe := fun _ _ => False }
section
variable {X : Cx} {pins ps : List (Addr × Obj)} {σ : St} {H : Hp} {s : Shared} {Z : Value → Shared → Prop} {e : Addr}
theorem Inv.suite (I : Inv X pins σ H s) (e : Addr) (hz : (X.A.mark (some (.ref e))).frames = X.A.frames) : Inv (X.suite pins e) [] σ H s :=
  ⟨⟨I.ok.mod, I.ok.kind, I.ok.glob, I.ok.blt, I.ok.above, I.ok.inj, I.ok.has, I.ok.cab, fun z => (Bool.noConfusion z), hz.trans I.ok.frames, I.ok.stk, I.ok.exf, I.ok.bs, I.ok.bsz, I.ok.noex, I.ok.exfs, I.ok.funs, I.ok.frf⟩,
    I.os, I.bare, I.base, I.loc, I.cell, I.free, I.freeC, fun p hp => I.pin p (by simpa using hp), I.hok, I.len⟩
end
end L2
namespace L2
open PySem PySem.Spec PyProof.Rows
noncomputable def U8 (X : Cx) (N : List Str) (scope : Scope) (cl : List (Str × Addr)) (y : Str) (C : Addr) (s : Shared) (H : Hp) (fp : List Addr) : Cx :=
  { zA X N scope cl C s H fp with env := compEnvC scope ((y, C + 1) :: cl) C X.env, fn := fun x => x == y }
structure LcOkC (X : Cx) (N : List Str) (n : Nat) (js : List Nat) (scope : Scope) (cl : List (Str × Addr)) (y : Str) : Prop where
  clos : closureFor scope X.env = pure cl
  one : ∀ k, cellsFrom k scope.names cl = (y, k) :: cl
  onep : ∀ h : Heap, pushCells h scope.names = h.push { cls := .type "cell", data := .cell none }
  kind : scope.kind = .function
  names : ∀ y ∈ scope.names, y.2 = .local → scope.names.lookup y.1 = some .local
  cells : ∀ x c, cl.lookup x = some c → X.env.cells.lookup x = some c
  has : ∀ x, ((relabel scope X.env).names.lookup x = some .cell ∨ (relabel scope X.env).names.lookup x = some .free) → x = y ∨ ∃ c, cl.lookup x = some c
  len : n + js.length = N.length
  free : ∀ (i : Nat) (x : Str), N[n + i]? = some x → ∃ j c, js[i]? = some j ∧ X.N[j]? = some x ∧ (X.env.scope.names.lookup x = some .cell ∨ X.env.scope.names.lookup x = some .free) ∧
    ((relabel scope X.env).names.lookup x = some .cell ∨ (relabel scope X.env).names.lookup x = some .free) ∧ cl.lookup x = some c ∧ x ≠ y
theorem vE {cl : List (Str × Addr)} {y x : Str} {k c : Addr} (h : List.lookup x ((y, k) :: cl) = some c) : (x = y ∧ c = k) ∨ cl.lookup x = some c := by
  rw [List.lookup_cons] at h
  cases q : x == y with
  | true =>
    rw [q] at h
    exact .inl ⟨beq_iff_eq.mp q, (Option.some.inj h).symm⟩
  | false =>
    rw [q] at h
    exact .inr h
theorem ZN {cl : List (Str × Addr)} {y x : Str} {k : Addr} (h : x ≠ y) : List.lookup x ((y, k) :: cl) = cl.lookup x := by
  rw [List.lookup_cons, beq_eq_false_iff_ne.mpr h]
theorem vF {cl : List (Str × Addr)} {y : Str} {k : Addr} : List.lookup y ((y, k) :: cl) = some k := by
  rw [List.lookup_cons, beq_self_eq_true]
section
variable {X : Cx} {pins : List (Addr × Obj)} {σ : St} {H : Hp} {s : Shared} {N : List Str} {n : Nat} {js : List Nat} {scope : Scope} {cl : List (Str × Addr)} {y : Str}
theorem LcOkC.far (L : LcOkC X N n js scope cl y) {fp : List Addr} {C b c : Addr} {x : Str} {z : Nat} (hf : ∀ b ∈ fp, FpOk X pins H b) (hlt : b < z) (hb : b ∈ fp) (hC : z ≤ C) (e : List.lookup x ((y, C + 1) :: cl) = some c) : c ≠ b := by
  rcases vE e with ⟨_, q⟩ | q
  · rw [q]
    exact Nat.ne_of_gt (Nat.lt_of_lt_of_le hlt (Nat.le_succ_of_le hC))
  · exact (hf b hb).2.2.2.2.1 x c (L.cells x c q)
theorem LcOkC.low (L : LcOkC X N n js scope cl y) (I : Inv X pins σ H s) {x : Str} {c : Addr} (e : cl.lookup x = some c) : c < s.heap.objs.size := by
  obtain ⟨v, o, ho, _⟩ := I.cell x c (L.cells x c e)
  exact Heap.lt_size ho
theorem LcOkC.ok (L : LcOkC X N n js scope cl y) (I : Inv X pins σ H s) {fp : List Addr} (hf : ∀ b ∈ fp, FpOk X pins H b) (hlt : ∀ b ∈ fp, b < s.heap.objs.size) {C : Addr} (hC : s.heap.objs.size ≤ C) : (U8 X N scope cl y C s H fp).Ok where
  mod := I.ok.mod
  kind := L.kind
  glob := I.ok.glob
  blt := I.ok.blt
  above := hC
  inj := fun x x' c h1 h2 => by
    rcases vE h1 with ⟨e1, q1⟩ | q1 <;> rcases vE h2 with ⟨e2, q2⟩ | q2
    · rw [e1, e2]
    · exact absurd (Nat.lt_of_lt_of_le (L.low I q2) hC) (by rw [q1]; exact Nat.not_lt.mpr (Nat.le_succ C))
    · exact absurd (Nat.lt_of_lt_of_le (L.low I q1) hC) (by rw [q2]; exact Nat.not_lt.mpr (Nat.le_succ C))
    · exact I.ok.inj x x' c (L.cells x c q1) (L.cells x' c q2)
  has := fun x hx => by
    rcases L.has x hx with e | ⟨c, e⟩
    · rw [e]
      exact ⟨_, vF⟩
    · by_cases q : x = y
      · rw [q]
        exact ⟨_, vF⟩
      · exact ⟨c, (ZN q).trans e⟩
  cab := fun x c hx e => by
    have hx : x = y := beq_iff_eq.mp hx
    rw [hx] at e
    cases (vF.symm.trans e)
    exact Nat.le_succ_of_le hC
  hd := I.ok.hd
  frames := I.ok.frames
  stk := .inl rfl
  exf := fun b hb => ⟨Nat.ne_of_lt (Nat.lt_of_lt_of_le (hlt b hb) hC), fun x c e => L.far hf (hlt b hb) hb hC e⟩
  bs := I.bs
  bsz := Nat.le_trans I.ok.bsz I.sz
  noex := fun b o e hb => by
    rcases (hf b hb).2.2.2.1 with z | z
    · exact I.ok.noex b o e z
    · exact absurd (Nat.lt_of_lt_of_le (Heap.lt_size (I.ok.bs b o e).1) z) (Nat.lt_irrefl _)
  exfs := fun b hb hz => by
    rcases List.mem_cons.mp (I.stkSub b hz) with z | z
    · exact (hf b hb).2.1 z
    · exact (hf b hb).2.2.1 z
  funs := I.stack
  frf := I.stkFree
end
end L2
namespace L2
open PySem PySem.Spec PyProof.Rows
section
variable {κ : Type} [DecidableEq κ]
noncomputable def yJ (kvs : List (κ × V)) (k : κ) : Option V := (kvs.find? fun kv => decide (kv.1 = k)).map (·.2)
noncomputable def yg (kvs : List (κ × V)) (k : κ) (v : V) : List (κ × V) :=
  if (kvs.any fun kv => decide (kv.1 = k)) = true then kvs.map (fun kv => if kv.1 = k then (kv.1, v) else kv) else kvs ++ [(k, v)]
noncomputable def YL (kvs : List (κ × V)) (k : κ) : List (κ × V) := kvs.filter fun kv => decide (kv.1 ≠ k)
theorem vG {p : κ × V} {r : List (κ × V)} {k : κ} (e : p.1 = k) : yJ (p :: r) k = some p.2 := by simp [yJ, List.find?_cons, e]
theorem vH {p : κ × V} {r : List (κ × V)} {k : κ} (e : ¬ p.1 = k) : yJ (p :: r) k = yJ r k := by simp [yJ, List.find?_cons, e]
theorem qo (k : κ) : ∀ kvs : List (κ × V), (kvs.any fun kv => decide (kv.1 = k)) = (yJ kvs k).isSome
  | [] => rfl
  | p :: r => by
    rw [List.any_cons]
    by_cases e : p.1 = k
    · simp only [vG e, decide_eq_true e, Bool.true_or, Option.isSome_some]
    · rw [vH e, decide_eq_false e, Bool.false_or]; exact qo k r
theorem qV (kvs : List (κ × V)) (k : κ) (v : V) : (yg kvs k v).length ≤ kvs.length + 1 := by
  unfold yg
  split
  · rw [List.length_map]; omega
  · rw [List.length_append, List.length_cons, List.length_nil]; omega
theorem xA.isSome_eq {o : Option V} {u : Option Value} (r : xA o u) : o.isSome = u.isSome := by
  cases o with
  | none => cases u with
    | none => rfl
    | some _ => exact (show False from r).elim
  | some _ => cases u with
    | none => exact (show False from r).elim
    | some _ => rfl
theorem xA.getD {o : Option V} {u : Option Value} {d : V} {d' : Value} (r : xA o u) (rd : RelV d d') : RelV (o.getD d) (u.getD d') := by
  cases o with
  | none => cases u with
    | none => exact rd
    | some _ => exact (show False from r).elim
  | some _ => cases u with
    | none => exact (show False from r).elim
    | some _ => exact r
theorem KV.val {kvs : List (κ × V)} {vs : List (κ × Value)} (r : KV kvs vs) (k : κ) : xA (yJ kvs k) (valueAt vs k) := by
  unfold KV at r
  induction r with
  | nil => exact True.intro
  | @cons p q ps qs h t ih =>
    obtain ⟨h1, h2⟩ := h
    by_cases e : p.1 = k
    · have e' : q.1 = k := h1.symm.trans e
      have b : valueAt (q :: qs) k = some q.2 := by simp [valueAt, List.find?_cons, e']
      rw [vG e, b]; exact h2
    · have e' : ¬ q.1 = k := fun z => e (h1.trans z)
      have b : valueAt (q :: qs) k = valueAt qs k := by simp [valueAt, List.find?_cons, e']
      rw [vH e, b]; exact ih
theorem KV.any {kvs : List (κ × V)} {vs : List (κ × Value)} (r : KV kvs vs) (k : κ) : (kvs.any fun kv => decide (kv.1 = k)) = vs.any fun kv => decide (kv.1 = k) := by
  unfold KV at r
  induction r with
  | nil => rfl
  | cons h t ih => rw [List.any_cons, List.any_cons, ih, h.1]
theorem KV.repl {kvs : List (κ × V)} {vs : List (κ × Value)} (r : KV kvs vs) (k : κ) {y : V} {u : Value} (ry : RelV y u) :
    KV (kvs.map fun kv => if kv.1 = k then (kv.1, y) else kv) (vs.map fun kv => if kv.1 = k then (kv.1, u) else kv) := by
  unfold KV at r ⊢
  induction r with
  | nil => exact .nil
  | @cons p q ps qs h t ih =>
    rw [List.map_cons, List.map_cons]
    refine .cons ?_ ih
    obtain ⟨h1, h2⟩ := h
    by_cases e : p.1 = k
    · rw [if_pos e, if_pos (h1.symm.trans e)]; exact ⟨h1, ry⟩
    · rw [if_neg e, if_neg (fun z => e (h1.trans z))]; exact ⟨h1, h2⟩
theorem KV.put {kvs : List (κ × V)} {vs : List (κ × Value)} (r : KV kvs vs) (k : κ) {y : V} {u : Value} (ry : RelV y u) : KV (yg kvs k y) (stored vs k u) := by
  unfold yg stored
  rw [r.any k]
  by_cases e : (vs.any fun kv => decide (kv.1 = k)) = true
  · rw [if_pos e, if_pos e]; exact r.repl k ry
  · rw [if_neg e, if_neg e]; exact Paired.snoc r ⟨rfl, ry⟩
theorem KV.drop {kvs : List (κ × V)} {vs : List (κ × Value)} (r : KV kvs vs) (k : κ) : KV (YL kvs k) (without vs k) := by
  unfold KV at r ⊢
  unfold YL without
  induction r with
  | nil => exact .nil
  | @cons p q ps qs h t ih =>
    obtain ⟨h1, h2⟩ := h
    rw [List.filter_cons, List.filter_cons]
    by_cases e : p.1 = k
    · have a : ¬ decide (p.1 ≠ k) = true := by simp [e]
      have b : ¬ decide (q.1 ≠ k) = true := by simp [h1.symm.trans e]
      rw [if_neg a, if_neg b]; exact ih
    · have e' : ¬ q.1 = k := fun z => e (h1.trans z)
      have a : decide (p.1 ≠ k) = true := by simp [e]
      have b : decide (q.1 ≠ k) = true := by simp [e']
      rw [if_pos a, if_pos b]; exact .cons ⟨h1, h2⟩ ih
theorem KV.keys {kvs : List (κ × V)} {vs : List (κ × Value)} (r : KV kvs vs) : kvs.map (·.1) = vs.map (·.1) := by
  unfold KV at r
  induction r with
  | nil => rfl
  | cons h t ih => rw [List.map_cons, List.map_cons, ih, h.1]
theorem KV.length {kvs : List (κ × V)} {vs : List (κ × Value)} (r : KV kvs vs) : kvs.length = vs.length := Paired.length r
end
theorem YM {P : Program} {w : World} {k : Key} {u : Value} (r : RelV (kV k) u) : (zH P w).is k u = true := by
  cases k with
  | inl i => obtain ⟨t, e⟩ := (show ∃ t, u = Value.int i t from r); subst e; exact qR P w i t
  | inr x => obtain ⟨t, e⟩ := (show ∃ t, u = Value.str x t from r); subst e; exact qS P w x t
theorem uG {P : Program} {w : World} : ∀ {ks : List Key} {us : List Value}, Vals (ks.map kV) us → ItemsAre (zH P w) ks us
  | [], _, r => by rw [List.map_nil] at r; cases r; exact .nil
  | k :: ks, _, r => by
    rw [List.map_cons] at r
    cases r with
    | cons h t => exact .cons (YM h) (uG t)
noncomputable abbrev KT (H : Hp) : List (List Key × V) → List (List Key × Addr × Value) → Prop := Paired fun p q => p.1 = q.1 ∧ H q.2.1 = some (.tup (p.1.map kV)) ∧ RelV p.2 q.2.2
theorem KT.val {H : Hp} {kvs : List (List Key × V)} {xs : List (List Key × Addr × Value)} (r : KT H kvs xs) (k : List Key) : xA (yJ kvs k) ((atKey xs k).map (·.2)) := by
  induction r with
  | nil => exact True.intro
  | @cons p q ps qs h t ih =>
    obtain ⟨h1, _, h2⟩ := h
    by_cases e : p.1 = k
    · have e' : q.1 = k := h1.symm.trans e
      have b : atKey (q :: qs) k = some q.2 := by simp [atKey, List.find?_cons, e']
      rw [vG e, b]; exact h2
    · have e' : ¬ q.1 = k := fun z => e (h1.trans z)
      have b : atKey (q :: qs) k = atKey qs k := by simp [atKey, List.find?_cons, e']
      rw [vH e, b]; exact ih
theorem KT.repl {H : Hp} {kvs : List (List Key × V)} {xs : List (List Key × Addr × Value)} (r : KT H kvs xs) (k : List Key) {y : V} {u : Value} (ry : RelV y u) :
    KT H (kvs.map fun kv => if kv.1 = k then (kv.1, y) else kv) (xs.map (putAt k u)) := by
  induction r with
  | nil => exact .nil
  | @cons p q ps qs h t ih =>
    rw [List.map_cons, List.map_cons]
    refine .cons ?_ ih
    obtain ⟨h1, h2, h3⟩ := h
    unfold putAt
    by_cases e : p.1 = k
    · rw [if_pos e, if_pos (h1.symm.trans e)]; exact ⟨h1, h2, ry⟩
    · rw [if_neg e, if_neg (fun z => e (h1.trans z))]; exact ⟨h1, h2, h3⟩
theorem KT.put {H : Hp} {kvs : List (List Key × V)} {xs : List (List Key × Addr × Value)} (r : KT H kvs xs) (k : List Key) {b : Addr} {y : V} {u : Value} (hb : H b = some (.tup (k.map kV))) (ry : RelV y u) :
    KT H (yg kvs k y) (storedH xs k b u) := by
  have e : (kvs.any fun kv => decide (kv.1 = k)) = (atKey xs k).isSome := by
    rw [qo, (r.val k).isSome_eq, Option.isSome_map]
  unfold yg storedH
  rw [e]
  by_cases q : (atKey xs k).isSome = true
  · rw [if_pos q, if_pos q]; exact r.repl k ry
  · rw [if_neg q, if_neg q]; exact Paired.snoc r ⟨rfl, hb, ry⟩
theorem KT.keeps {H H' : Hp} {kvs : List (List Key × V)} {xs : List (List Key × Addr × Value)} (r : KT H kvs xs) (ht : ∀ b ys, H b = some (.tup ys) → H' b = some (.tup ys)) : KT H' kvs xs :=
  Paired.mapP r fun _ _ z => ⟨z.1, ht _ _ z.2.1, z.2.2⟩
section
variable {P : Program} {w : World} {H : Hp} {h : Heap} {a : Addr}
theorem YN {u : HO} (ok : HOk P w H h) (e : Rd H a u) : zB P w H h a u := e.ok ok
theorem U9 {kvs : List (Key × V)} (ok : HOk P w H h) (e : Rd H a (.dK kvs)) : kvs.length ≤ sizeLine ∧ (a == sysModules) = false ∧ ∃ vs, KV kvs vs ∧ h.DictOf (zH P w) a vs :=
  show zB P w H h a (.dK kvs) from YN ok e
theorem qp {ks : List Key} (ok : HOk P w H h) (e : H a = some (.tup (ks.map kV))) : (tupleKind (zH P w)).is h ks a := by
  obtain ⟨_, its, r, o, h1, h2, n, h3⟩ := (show zB P w H h a (.tup (ks.map kV)) from ok a _ e)
  exact ⟨o, its.toArray, n, h1, h2, h3, by simpa using uG r⟩
theorem YO {kvs : List (List Key × V)} (ok : HOk P w H h) (e : Rd H a (.dT kvs)) : kvs.length ≤ sizeLine ∧ (a == sysModules) = false ∧
    ∃ xs, KT H kvs xs ∧ h.DictOfH (tupleKind (zH P w)) a xs := by
  obtain ⟨z, y, xs, r, o, es, ep, h1, h2, h3, h4, h5⟩ := (show zB P w H h a (.dT kvs) from YN ok e)
  refine ⟨z, y, xs, r, o, es, ep, h1, h2, h3, h4, fun x hx => ?_, h5⟩
  have all : ∀ {l : List (List Key × V)} {m : List (List Key × Addr × Value)}, KT H l m → ∀ x ∈ m, (tupleKind (zH P w)).is h x.1 x.2.1 := by
    intro l m q
    induction q with
    | nil => intro x hx; exact nomatch hx
    | @cons p q ps qs hq t ih =>
      intro x hx
      rcases List.mem_cons.mp hx with e | hx
      · subst e
        exact qp ok (by rw [← hq.1]; exact hq.2.1)
      · exact ih x hx
  exact all r x hx
theorem YQ {kvs : List (List Key × V)} (ok : HOk P w H h) (e : H a = some (.dT kvs)) : kvs.length ≤ sizeLine ∧ (a == sysModules) = false ∧
    ∃ xs, KT H kvs xs ∧ h.DictOfH (tupleKind (zH P w)) a xs := YO ok (.inl e)
end
noncomputable def vJ (H : Hp) (a : Addr) (y : V) (r : Option V) : Prop :=
  (∃ kvs k, Rd H a (.dK kvs) ∧ y = kV k ∧ r = yJ kvs k) ∨ ∃ kvs k b, Rd H a (.dT kvs) ∧ y = .ref b ∧ H b = some (.tup (k.map kV)) ∧ r = yJ kvs k
noncomputable def jO (H : Hp) (a : Addr) (y v : V) (H' : Hp) : Prop :=
  (∃ kvs k, H a = some (.dK kvs) ∧ y = kV k ∧ kvs.length < sizeLine ∧ H' = upd H a (.dK (yg kvs k v))) ∨
  ∃ kvs k b, H a = some (.dT kvs) ∧ y = .ref b ∧ H b = some (.tup (k.map kV)) ∧ kvs.length < sizeLine ∧ H' = upd H a (.dT (yg kvs k v))
theorem vJ.k {H : Hp} {a : Addr} {kvs : List (Key × V)} {k : Key} (e : H a = some (.dK kvs)) : vJ H a (kV k) (yJ kvs k) := .inl ⟨kvs, k, .inl e, rfl, rfl⟩
theorem vJ.t {H : Hp} {a b : Addr} {kvs : List (List Key × V)} {k : List Key} (e : H a = some (.dT kvs)) (eb : H b = some (.tup (k.map kV))) : vJ H a (.ref b) (yJ kvs k) := .inr ⟨kvs, k, b, .inl e, rfl, eb, rfl⟩
theorem jO.k {H : Hp} {a : Addr} {kvs : List (Key × V)} {k : Key} {v : V} (e : H a = some (.dK kvs)) (hl : kvs.length < sizeLine) : jO H a (kV k) v (upd H a (.dK (yg kvs k v))) := .inl ⟨kvs, k, e, rfl, hl, rfl⟩
theorem jO.t {H : Hp} {a b : Addr} {kvs : List (List Key × V)} {k : List Key} {v : V} (e : H a = some (.dT kvs)) (eb : H b = some (.tup (k.map kV))) (hl : kvs.length < sizeLine) :
    jO H a (.ref b) v (upd H a (.dT (yg kvs k v))) := .inr ⟨kvs, k, b, e, rfl, eb, hl, rfl⟩
section
variable {X : Cx} {pins : List (Addr × Obj)} {σ : St} {H : Hp} {s : Shared} {a : Addr} {y v : V} {u r : Value} {o : Option V} {A : Around} {E : Value → Shared → Prop}
theorem Inv.big (I : Inv X pins σ H s) : sysModules < s.heap.objs.size := by
  have h : mainGlobals < s.heap.objs.size := (I.mod.glob.keeps I.bk).lt
  exact Nat.lt_trans (by decide) h
theorem Qy {Q : Value → Shared → Prop} (hu : A.units + 1 < cLine) (I : Inv X pins σ H s) (g : vJ H a y o) (ry : RelV y u) (h : ∀ s', Inv X pins σ H s' → Q (.bool o.isSome) s') :
    wpAny (model X.prog X.w) A (compareOp .In u (.ref a)) Q E s := by
  rcases g with ⟨kvs, k, e, ey, l⟩ | ⟨kvs, k, b, e, ey, eb, l⟩
  · subst ey
    obtain ⟨z, hd, vs, rel, dd⟩ := U9 I.hok e
    refine wpAny_in_of (YM ry) hd dd.mapOf ?_
    rw [← (rel.val k).isSome_eq, ← l]
    exact h _ (I.tok _)
  · subst ey
    cases (show u = Value.ref b from ry)
    obtain ⟨z, hd, xs, rel, dd⟩ := YO I.hok e
    refine wpAny_in_heap (tupleKind_room_in1 hu) (qp I.hok eb) hd dd ?_
    have q := (rel.val k).isSome_eq
    rw [Option.isSome_map] at q
    rw [← q, ← l]
    exact h _ (I.tok _)
theorem XG {h' : Heap} {t' : Nat} {ob : HO} (I : Inv X pins σ H s) (mu : Mut (H a)) (hs : Heap.SameBut a s.heap h') (he : ∃ q, h'.get? a = some q) (new : zB X.prog X.w (upd H a ob) h' a ob) :
    Inv X pins σ (upd H a ob) { s with heap := h', toks := t' } :=
  I.write (x := a) (e := a) mu (.inl rfl) (fun b q hb z => (hs.2 b hb).trans z) he new
end
section
variable {X : Cx} {pins : List (Addr × Obj)} {σ : St} {H : Hp} {s : Shared} {a : Addr} {kvs : List (Key × V)} {k : Key} {u : Value} {A : Around} {E : Value → Shared → Prop}
end
noncomputable def VT (ty td : TE) : TE := fun σ H Q => ty σ H fun y H1 => td σ H1 fun x H2 => ∃ a o, x = .ref a ∧ vJ H2 a y o ∧ Q (.bl o.isSome) H2
section
variable {X : Cx} {o i e value : Expr} {pos pos' tpos : Pos} {td ty tv : TE}
theorem VU (hu : X.A.units + 1 < cLine) (hi : PE X i ty) (ho : PE X o td) : PC X .In i o (VT ty td) := by
  intro pins s σ H Q I h
  refine thn (hi pins s σ H _ I h) fun iv s1 ⟨y, H1, I1, ry, q1⟩ => thn (ho pins s1 σ H1 _ I1 q1) fun u s2 ⟨x, H2, I2, rx, a, ov, ex, g, q2⟩ => ?_
  subst ex
  obtain rfl : u = Value.ref a := rx
  exact Qy hu I2 g ry fun s3 I3 => ⟨.bl ov.isSome, H2, I3, rfl, q2⟩
end
theorem ZO {P : Program} {w : World} {H : Hp} (h : Heap) (hb : sysModules < h.objs.size) : zB P w H (h.push { cls := .type "dict", data := .dict #[] }) h.objs.size (.dT []) :=
  ⟨Nat.zero_le _, beq_eq_false_iff_ne.mpr (Ne.symm (Nat.ne_of_lt hb)), [], .nil, _, #[], 0, Heap.get?_push_size _ rfl, ⟨rfl, rfl, rfl⟩, rfl, rfl, List.nodup_nil⟩
noncomputable def kU : TE := fun _ H Q => ∀ p, H p = none → Q (.ref p) (upd H p (.dT []))
section
variable {X : Cx} {pos : Pos}
theorem ZP : PE X (.Dict [] [] pos) kU := fun pins s σ H Q I h =>
  wpAny_Dict_empty ⟨.ref s.heap.objs.size, _, I.laid (a := s.heap.objs.size) (o := .dT []) (t' := s.toks) (fun _ _ q => Heap.get?_push_of_some _ q) (Nat.le_refl _) (ZO s.heap I.big), rfl, h _ (I.hok.fresh (Nat.le_refl _))⟩
end
noncomputable def VV (kvs more : List (Key × V)) : List (Key × V) := more.foldl (fun acc kv => yg acc kv.1 kv.2) kvs
theorem KV.merge : ∀ {more : List (Key × V)} {rs : List (Key × Value)} {kvs : List (Key × V)} {vs : List (Key × Value)}, KV more rs → KV kvs vs → KV (VV kvs more) (merged vs rs) := by
  intro more rs kvs vs r
  unfold KV at r
  induction r generalizing kvs vs with
  | nil => intro q; exact q
  | @cons p q ps qs h t ih =>
    intro r0
    have e : KV (yg kvs p.1 p.2) (stored vs q.1 q.2) := by
      have := r0.put p.1 h.2
      rw [← h.1]; exact this
    exact ih e
section
variable {X : Cx} {pins : List (Addr × Obj)} {σ : St} {H : Hp} {s : Shared} {a : Addr} {y d : V} {u r : Value} {o : Option V} {A : Around} {E : Value → Shared → Prop}
end
section
variable {X : Cx} {o e f : Expr} {apos cpos : Pos} {td ty tx : TE}
end
section
variable {X : Cx} {pins : List (Addr × Obj)} {σ : St} {H : Hp} {s : Shared} {a : Addr} {kvs : List (Key × V)} {A : Around} {E : Value → Shared → Prop}
end
section
variable {X : Cx} {pins : List (Addr × Obj)} {σ : St} {H : Hp} {s : Shared} {a : Addr} {y : V} {u : Value} {A : Around} {E : Value → Shared → Prop}
end
end L2
namespace PySem
open PySem PySem.W PySem.Calls PyProof.Rows
section
variable {prog : Program} {w : World} {A : Around} {E : Value → Shared → Prop} {s : Shared} {T : String} {r d : Addr} {n : Nat} {P : Nat → Value → Prop} {OK : Heap → Prop}
end
end PySem
namespace L2
open PySem PySem.Spec PyProof.Rows
theorem Inv.turnedL {X : Cx} {pins : List (Addr × Obj)} {σ : St} {H : Hp} {s : Shared} {h' : Heap} {t' : Nat} {fp : List Addr} (I : Inv X pins σ H s) (k : ∀ b o, b ∉ fp → s.heap.get? b = some o → h'.get? b = some o)
    (hf : ∀ b ∈ fp, FpOk X pins H b) : Inv X pins σ H { s with heap := h', toks := t' } := by
  have nit : ∀ b u, H b = some u → b ∉ fp := fun b u e z => by rw [(hf b z).1] at e; cases e
  refine I.step (g' := s.gens) (d' := s.drawn) (ch := fp) (fun b hb => ?_) (fun b o _ _ hc e _ => k b o hc e) (fun b o _ _ hc e _ => ⟨o.slots, k b o hc e⟩) (fun _ _ _ _ n => n)
    (fun b o hc e => ⟨o, k b o hc e⟩) (fun _ _ e => e) (fun _ _ _ e => e) (fun b ps e => ⟨#[], by rw [e]; simp⟩) (fun m hm => ?_) (fun b u e => ?_) I.bare
  · obtain ⟨f0, f1, f2, f3, f4, f5⟩ := hf b hb
    exact ⟨f3, f1, f4, f5⟩
  · obtain ⟨o, es, ep, ho, r⟩ := hm
    exact ⟨o, es, ep, k _ o (fun z => (hf _ z).2.1 rfl) ho, r⟩
  · refine (I.hok b u e).stay (fun c v hc q => k c v ?_ q) (fun _ q => q) fun _ _ q => q
    rcases hc with z | z
    · rw [z]; exact nit b u e
    · exact nit c _ z
noncomputable def Ite (K : PySem.W.Frag) (a : Addr) : It :=
  ⟨fun i H => ∃ xs x, SqL K H a xs ∧ xs[i]? = some x, fun i H x H' => ∃ t y, x = .ref t ∧ H t = none ∧ H' = upd H t (.tup [.int i, y]) ∧ ∀ xs, SqL K H a xs → xs[i]? = some y, fun i H => ∃ xs, SqL K H a xs ∧ xs.length ≤ i⟩
section
variable {X : Cx}
end
noncomputable def YR (K : PySem.W.Frag) (a : Addr) (g : TG) (tb : TS) (D : Ends) (σ : St) (H : Hp) : Prop := ∃ W : Nat → Nat → St → Hp → Prop, (∃ m, W 0 m σ H) ∧ ∀ i m σ H, W i m σ H →
  ((Ite K a).stop i H ∧ D.nx σ H) ∨ ((Ite K a).go i H ∧ ∃ N : St → Hp → Prop, (∀ σ' H', N σ' H' → ∃ m', m' < m ∧ W (i + 1) m' σ' H') ∧ ∀ x H', (Ite K a).yld i H x H' → g x σ H' fun σ2 H2 => tb { D with nx := N, ct := N, bk := D.nx } σ2 H2)
theorem YR.run {K : PySem.W.Frag} {a : Addr} {xs : List V} {g : TG} {tb : TS} {D : Ends} {σ : St} {H : Hp} (Pv : Nat → St → Hp → Prop) (h0 : Pv 0 σ H) (hl : ∀ i σ H, i ≤ xs.length → Pv i σ H → SqL K H a xs)
    (hs : ∀ i x σ H t, xs[i]? = some x → Pv i σ H → H t = none → ∀ R : St → Hp → Prop, (∀ σ' H', Pv (i + 1) σ' H' → R σ' H') → g (.ref t) σ (upd H t (.tup [.int i, x])) fun σ2 H2 => tb { D with nx := R, ct := R, bk := D.nx } σ2 H2) (hd : ∀ σ H, Pv xs.length σ H → D.nx σ H) :
    YR K a g tb D σ H := by
  refine ⟨fun i m σ H => m = xs.length - i ∧ i ≤ xs.length ∧ Pv i σ H, ⟨xs.length, by simp, Nat.zero_le _, h0⟩, ?_⟩
  rintro i m σ H ⟨rfl, hi, p⟩
  have q := hl i σ H hi p
  by_cases hlt : i < xs.length
  · refine .inr ⟨⟨xs, xs[i], q, by simp [hlt]⟩, Pv (i + 1), fun σ' H' p' => ⟨xs.length - (i + 1), by omega, rfl, hlt, p'⟩, ?_⟩
    rintro _ _ ⟨t, y, rfl, ht, rfl, hy⟩
    exact hs i y σ H t (hy xs q) p ht _ fun _ _ z => z
  · have e : i = xs.length := by omega
    subst e
    exact .inl ⟨⟨xs, q, Nat.le_refl _⟩, hd σ H p⟩
end L2
namespace L2
open PySem PySem.Spec PyProof.Rows
section
variable {X : Cx} {tg : Expr}
noncomputable def R3 (i j c : Int) (n : Nat) : Prop := c ≠ 0 ∧ Builtin.Range.small i j c = true ∧ Builtin.Range.rangeSize i j c = n ∧ Builtin.divisionGoesByPylong (j - i) c = false
end
section
variable {X : Cx}
noncomputable def yC (K : PySem.W.Frag) (H : Hp) : List V → List (Key × V) → Prop := Paired fun y kv => ∃ t, y = .ref t ∧ SqT K H t [kV kv.1, kv.2]
theorem yC.get {K : PySem.W.Frag} {H : Hp} : ∀ {ys : List V} {kvs : List (Key × V)} {j : Nat} {kv : Key × V}, yC K H ys kvs → kvs[j]? = some kv → ∃ t, ys[j]? = some (.ref t) ∧ SqT K H t [kV kv.1, kv.2]
  | _, _, _, _, .nil, e => by simp at e
  | _, _, 0, _, .cons r _, e => by
    simp at e
    subst e
    obtain ⟨t, rfl, h⟩ := r
    exact ⟨t, rfl, h⟩
  | _, _, j + 1, kv, .cons _ q, e => by
    obtain ⟨t, h1, h2⟩ := yC.get (j := j) (kv := kv) q (by simpa using e)
    exact ⟨t, by simpa using h1, h2⟩
theorem yC.snoc {K : PySem.W.Frag} {H : Hp} {y : V} {kv : Key × V} (hy : ∃ t, y = .ref t ∧ SqT K H t [kV kv.1, kv.2]) : ∀ {ys : List V} {kvs : List (Key × V)}, yC K H ys kvs → yC K H (ys ++ [y]) (kvs ++ [kv])
  | _, _, .nil => .cons hy .nil
  | _, _, .cons r q => .cons r (yC.snoc hy q)
theorem yC.keep {K : PySem.W.Frag} {H H' : Hp} {ys : List V} {kvs : List (Key × V)} (h : yC K H ys kvs) (k : ∀ b xs, SqT K H b xs → SqT K H' b xs) : yC K H' ys kvs :=
  Paired.imp' (fun y kv ⟨t, e, q⟩ => ⟨t, e, k t _ q⟩) h
end
end L2
namespace L2
open PySem PySem.Spec PyProof.Rows
noncomputable def yu (kvs more : List (List Key × V)) : List (List Key × V) := more.foldl (fun acc kv => yg acc kv.1 kv.2) kvs
theorem yc : ∀ (more kvs : List (List Key × V)), (yu kvs more).length ≤ kvs.length + more.length
  | [], kvs => by show kvs.length ≤ kvs.length + 0; omega
  | p :: r, kvs => by
    have h1 := yc r (yg kvs p.1 p.2)
    have h2 := qV kvs p.1 p.2
    show (yu (yg kvs p.1 p.2) r).length ≤ _
    rw [List.length_cons]; omega
theorem KT.merge {H : Hp} : ∀ {more : List (List Key × V)} {rs : List (List Key × Addr × Value)} {kvs : List (List Key × V)} {vs : List (List Key × Addr × Value)}, KT H more rs → KT H kvs vs → KT H (yu kvs more) (zx vs rs) := by
  intro more rs kvs vs r
  unfold KT at r
  induction r generalizing kvs vs with
  | nil => intro q; exact q
  | @cons p q ps qs h t ih =>
    intro r0
    have e : KT H (yg kvs p.1 p.2) (storedH vs q.1 q.2.1 q.2.2) := by
      have := r0.put p.1 h.2.1 h.2.2
      rw [h.1] at this ⊢
      exact this
    exact ih e
noncomputable def vW (r c : Nat) : Int := reduceHash (Builtin.Tuple.tupleHashOf [hashInt (r : Int), hashInt (c : Int)])
theorem kW : ∀ r < 12, ((List.range 24).map (vW r)).Nodup := by decide +kernel
theorem ZQ {r c d : Nat} (hr : r < 12) (hc : c < 24) (hd : d < 24) (e : vW r c = vW r d) : c = d := by
  have h := kW r hr
  have h1 : ((List.range 24).map (vW r))[c]? = ((List.range 24).map (vW r))[d]? := by
    rw [List.getElem?_map, List.getElem?_map, List.getElem?_range hc, List.getElem?_range hd]
    simp [e]
  exact (List.getElem?_inj (by simpa using hc) h).1 h1
noncomputable def y7 (r c : Nat) : List Key := [.inl (r : Int), .inl (c : Int)]
noncomputable def qq (ks : List (List Key)) : Prop := ∃ r, r < 12 ∧ ∀ k ∈ ks, ∃ c, c < 24 ∧ k = y7 r c
section
variable {X : Cx}
theorem qW {P : Program} {w : World} {more : List (List Key × Addr × Value)} (h : qq (more.map (·.1))) (hn : (more.map (·.1)).Nodup) : (more.map fun x => (tupleKind (zH P w)).hash x.1).Nodup := by
  obtain ⟨r, hr, hk⟩ := h
  have key : ∀ ks : List (List Key), ks.Nodup → (∀ k ∈ ks, ∃ c, c < 24 ∧ k = y7 r c) → (ks.map fun k => (tupleKind (zH P w)).hash k).Nodup := by
    intro ks
    induction ks with
    | nil => intro _ _; exact List.nodup_nil
    | cons k ks ih =>
      intro n1 h1
      rw [List.nodup_cons] at n1
      rw [List.map_cons, List.nodup_cons]
      refine ⟨fun m => ?_, ih n1.2 fun k hk => h1 k (List.mem_cons_of_mem _ hk)⟩
      obtain ⟨k2, m2, e2⟩ := List.mem_map.1 m
      obtain ⟨c, hc, rfl⟩ := h1 k List.mem_cons_self
      obtain ⟨d, hd, rfl⟩ := h1 k2 (List.mem_cons_of_mem _ m2)
      have : d = c := ZQ hr hd hc e2
      subst this
      exact n1.1 m2
  have := key (more.map (·.1)) hn hk
  rwa [List.map_map] at this
noncomputable def xF : V → List V → Hp → VK → Prop := fun x vs H Q => ∃ a b kvs more, x = .ref a ∧ vs = [.ref b] ∧ H a = some (.dT kvs) ∧ H b = some (.dT more) ∧ a ≠ b ∧ qq (more.map (·.1)) ∧ kvs.length + more.length ≤ 1000 ∧ Q .non (upd H a (.dT (yu kvs more)))
theorem jP (hu : X.A.units + 2 < cLine) : MtR X "dict.update" xF := by
  intro pins s σ H x xs v us Q I rx r h
  obtain ⟨a, b, kvs, more, rfl, rfl, e1, e2, hab, ho, hl, q⟩ := h
  obtain ⟨u, rfl, ru⟩ := r.one
  cases ru
  cases rx
  obtain ⟨z1, hd1, vs, rel1, dd1⟩ := YQ I.hok e1
  obtain ⟨z2, hd2, ws, rel2, dd2⟩ := YQ I.hok e2
  have l1 := Paired.length rel1
  have l2 := Paired.length rel2
  have l3 := yc more kvs
  have hk : more.map (·.1) = ws.map (·.1) := by
    clear l2 dd2 z2 l3 hl q ho e2
    induction rel2 with
    | nil => rfl
    | cons h t ih => rw [List.map_cons, List.map_cons, h.1, ih]
  have hn : (ws.map (·.1)).Nodup := let ⟨_, _, _, _, _, _, _, _, n⟩ := dd2; n
  refine call_meetsIn PySem.F.slot_dict_update (zS dd1) PySem.F.entry_dict_update (PySem.F.args_dict_update_2 _ _) (xV (zH X.prog X.w) a b hab hd2)
    ⟨vs, ws, by first | exact hu | (show X.A.units + 1 < cLine; omega), dd1, dd2, qW (hk ▸ ho) hn, (by rw [sizeLine_eq]; omega), fun h' dd' hs => ⟨.non, _, ?_, rfl, q⟩⟩
  obtain ⟨q, es, ep, hq, h2, h3, h4, _, h5⟩ := dd'
  refine XG I (by rw [e1]; exact True.intro) hs ⟨q, hq⟩ ⟨by rw [sizeLine_eq]; omega, hd1, _, (rel2.merge rel1).keeps fun c ys ec => ?_, q, es, ep, hq, h2, h3, h4, h5⟩
  rw [zb (U3 ec e1 (fun z => nomatch z))]
  exact ec
noncomputable def kX (K : PySem.W.Frag) (H : Hp) : List V → List (List Key × V) → Prop := Paired fun y kv => ∃ t b, y = .ref t ∧ SqT K H t [.ref b, kv.2] ∧ H b = some (.tup (kv.1.map kV))
noncomputable def qr (K : PySem.W.Frag) : List V → Hp → VK → Prop := fun xs H Q => ∃ a ys kvs, xs = [.ref a] ∧ SqL K H a ys ∧ kX K H ys kvs ∧ kvs.length ≤ 1000 ∧ ∀ p, H p = none → Q (.ref p) (upd H p (.dT (yu [] kvs)))
theorem jQ (hc : X.calm = true) (hu : X.A.units + 4 < cLine) : zY X (.type "dict") (qr X.K) := by
  intro pins s σ H xs us Q I r h
  obtain ⟨a, ys, kvs, rfl, hq, hp, hl, q⟩ := h
  obtain ⟨u, rfl, ru⟩ := r.one
  cases ru
  obtain ⟨its, rv, ⟨o, n, e, c, hnd, dt⟩, hz⟩ := I.list hq
  have l1 := Paired.length hp
  have l2 := rv.length
  have hval : ∃ ws : List (List Key × Addr × Value), KT H kvs ws ∧ ∀ (j : Nat) kv, ws[j]? = some kv → IsTupleKey (zH X.prog X.w) s.heap kv.1 kv.2.1 ∧ ∃ t, its[j]? = some (.ref t) ∧ IsTup s.heap t #[.ref kv.2.1, kv.2.2] := by
    clear q dt e hz l1 l2 hq
    induction hp generalizing its with
    | nil => exact ⟨[], .nil, fun j kv hj => by simp at hj⟩
    | @cons y kv ys kvs hy t ih =>
      cases rv with
      | @cons _ w1 _ ws1 r1 r2 =>
        obtain ⟨ws, k1, k2⟩ := ih (by simp at hl; omega) _ r2
        obtain ⟨t0, b, rfl, hb, hk⟩ := hy
        cases r1
        obtain ⟨tt, rt, pt, _⟩ := I.tuple hb
        cases rt with
        | @cons _ key _ t1 rk t1r =>
          cases rk
          cases t1r with
          | @cons _ v _ t2 rv' t2r =>
            cases t2r
            refine ⟨(kv.1, b, v) :: ws, .cons ⟨rfl, hk, rv'⟩ k1, fun j kv' hj => ?_⟩
            cases j with
            | zero =>
              cases hj
              obtain ⟨ot, e1, e2, _, e3⟩ := pt
              exact ⟨qp I.hok hk, t0, rfl, ⟨ot, e1, e2, _, e3⟩⟩
            | succ j =>
              obtain ⟨g0, t', g1, g2⟩ := k2 j kv' (by simpa using hj)
              exact ⟨g0, t', by simpa using g1, g2⟩
  obtain ⟨ws, k1, k2⟩ := hval
  have l3 := Paired.length k1
  refine kw (knd := zH X.prog X.w) (I.ok.hd hc) (by omega) e c dt hnd (more := ws) (by simp; omega) (fun j kv hj => ?_) (by rw [sizeLine_eq]; omega) fun h' tk dd kk => ?_
  · obtain ⟨g0, t, g1, g2⟩ := k2 j kv hj
    exact ⟨g0, t, by simpa using g1, g2⟩
  · have fr : H s.heap.objs.size = none := I.hok.fresh (Nat.le_refl _)
    refine ⟨.ref s.heap.objs.size, _, I.laid (a := s.heap.objs.size) (o := .dT (yu [] kvs)) (t' := tk) kk (Nat.le_refl _) ?_, rfl, q _ fr⟩
    have hz2 : (yu [] kvs).length ≤ sizeLine := by
      have h1 := yc kvs []
      rw [List.length_nil] at h1
      rw [sizeLine_eq]; omega
    obtain ⟨q, es, ep, hq, h2, h3, h4, _, h5⟩ := dd
    exact ⟨hz2, beq_eq_false_iff_ne.mpr (Ne.symm (Nat.ne_of_lt I.big)), _, (KT.merge k1 .nil).keeps fun c ys ec => by rw [zb (zy ec fr)]; exact ec, q, es, ep, hq, h2, h3, h4, h5⟩
end
end L2
namespace L2
open PySem PySem.Spec PyProof.Rows
section
variable {X : Cx} {pos : Pos}
end
section
variable {X : Cx} {k : Nat} {sp : Sp} {C : Addr} {x : Str} {p pos : Pos} {e : Expr} {es : List Expr} {t : TA}
end
noncomputable def Itf (f : Nat → Int) (n : Nat) : It := ⟨fun i _ => i < n, fun i H x H' => H' = H ∧ x = .int (f i), fun i _ => n ≤ i⟩
noncomputable def LcF (n0 : Nat) (f : Nat → Int) (g : TG) (tt : TT) (te : TE) (σ0 : St) (H1 : Hp) (Q : VK) : Prop := ∀ D, H1 D = none → ∃ W : Nat → Nat → St → Hp → Prop, (∃ m, W 0 m σ0 (upd H1 D (.lst []))) ∧ ∀ i m σ' H', W i m σ' H' →
  ((Itf f n0).stop i H' ∧ Q (.ref D) H') ∨ ((Itf f n0).go i H' ∧ ∃ Nx : St → Hp → Prop, (∀ σ2 H2, Nx σ2 H2 → ∃ m', m' < m ∧ W (i + 1) m' σ2 H2) ∧
    ∀ x H2, (Itf f n0).yld i H' x H2 → g x σ' H2 fun σ3 H3 => tt σ3 H3 fun ok H4 => if ok = true then te σ3 H4 fun y H5 => ∃ ys, H5 D = some (.lst ys) ∧ ys.length < sizeLine ∧ Nx σ3 (upd H5 D (.lst (ys ++ [y]))) else Nx σ3 H4)
theorem LcF.by {n0 : Nat} {f : Nat → Int} {g : TG} {tt : TT} {te : TE} {σ0 : St} {H1 : Hp} {Q : VK} (Pv : Addr → Nat → St → Hp → Prop) (h0 : ∀ D, H1 D = none → Pv D 0 σ0 (upd H1 D (.lst [])))
    (hs : ∀ D i σ H, H1 D = none → i < n0 → Pv D i σ H → g (.int (f i)) σ H fun σ3 H3 => tt σ3 H3 fun ok H4 => if ok = true then te σ3 H4 fun y H5 => ∃ ys, H5 D = some (.lst ys) ∧ ys.length < sizeLine ∧ Pv D (i + 1) σ3 (upd H5 D (.lst (ys ++ [y]))) else Pv D (i + 1) σ3 H4)
    (hd : ∀ D σ H, H1 D = none → Pv D n0 σ H → Q (.ref D) H) : LcF n0 f g tt te σ0 H1 Q := by
  intro D hD
  refine ⟨fun i m σ H => m = n0 - i ∧ i ≤ n0 ∧ Pv D i σ H, ⟨n0, by simp, Nat.zero_le _, h0 D hD⟩, ?_⟩
  rintro i m σ H ⟨rfl, hi, p⟩
  by_cases hlt : i < n0
  · refine .inr ⟨hlt, Pv D (i + 1), fun σ' H' p' => ⟨n0 - (i + 1), by omega, rfl, hlt, p'⟩, fun x H' y => ?_⟩
    obtain ⟨e, y⟩ := y
    subst e y
    exact hs D i σ _ hD hlt p
  · have e : i = n0 := by omega
    subst e
    exact .inl ⟨Nat.le_refl _, hd D σ H hD p⟩
end L2
namespace L2
open PySem PySem.Spec PyProof.Rows
noncomputable def YS (K : PySem.W.Frag) (a : Addr) (g : TG) (tb : TS) (D : Ends) (σ : St) (H : Hp) : Prop := ∃ W : Nat → Nat → St → Hp → Prop, (∃ m, W 0 m σ H) ∧ ∀ i m σ H, W i m σ H →
  ((Itt K a).stop i H ∧ D.nx σ H) ∨ ((Itt K a).go i H ∧ ∃ N : St → Hp → Prop, (∀ σ' H', N σ' H' → ∃ m', m' < m ∧ W (i + 1) m' σ' H') ∧ ∀ x H', (Itt K a).yld i H x H' → g x σ H' fun σ2 H2 => tb { D with nx := N, ct := N, bk := D.nx } σ2 H2)
theorem YS.run {K : PySem.W.Frag} {a : Addr} {xs : List V} {g : TG} {tb : TS} {D : Ends} {σ : St} {H : Hp} (Pv : Nat → St → Hp → Prop) (h0 : Pv 0 σ H) (hl : ∀ i σ H, i ≤ xs.length → Pv i σ H → SqT K H a xs)
    (hs : ∀ i x σ H, xs[i]? = some x → Pv i σ H → ∀ R : St → Hp → Prop, (∀ σ' H', Pv (i + 1) σ' H' → R σ' H') → g x σ H fun σ2 H2 => tb { D with nx := R, ct := R, bk := D.nx } σ2 H2) (hd : ∀ σ H, Pv xs.length σ H → D.nx σ H) : YS K a g tb D σ H :=
  Xs Pv h0 hl (fun i x σ H hi p => hs i x σ H hi p _ fun _ _ z => z) hd
end L2
namespace L2
open PySem PySem.Spec PyProof.Rows
end L2
namespace L2
open PySem PySem.W PySem.Calls PyProof.Rows
section
variable {X : Cx}
end
end L2
namespace PySem
open PySem PySem.W PySem.Calls PyProof.Rows
section
variable {prog : Program} {w : World} {A : Around} {R : Result → Shared → Prop} {I S : Addr} {fp wr : List Addr} {n : Nat} {P : Nat → Value → Prop} {St : Nat → Heap → Prop}
end
end PySem
namespace L2
open PySem PySem.W PySem.Calls PyProof.Rows
section
variable {X : Cx} {x : Str} {p pos : Pos} {e : Expr} {es : List Expr} {kws : List Keyword} {ks : List Str} {t tk : TA} {id : String} {r : List V → List V → Hp → VK → Prop}
end
end L2
namespace L2
open PySem PySem.Spec PyProof.Rows
section
variable {X : Cx} {k : Nat} {sp : Sp} {C : Addr} {m : Str} {apos pos : Pos} {o e : Expr} {es : List Expr} {ta : TE} {t : TA}
end
end L2
namespace L2
open PySem PySem.Spec PyProof.Rows
structure SV where
  wide : Int
  high : Int
  row : Int
  col : Int
  late : Bool
  ink : Int
  wrap : Bool
  putting : Bool
  home : Bool
  top : Int
  bottom : Int
  left : Int
  right : Int
  last : V
section
variable {p st kp : Addr} {S : SV}
end
section
variable {sl : Addr} {S : SV}
end
section
variable {X : Cx} {o i value : Expr} {td ty tv : TE} {pos pos' : Pos}
theorem PE.cl {e : Expr} {t : TE} (h : PE X e t) : PE X e (fun σ H Q => ∃ Q' : VK, t σ H Q' ∧ ∀ x H1, Q' x H1 → Q x H1) := fun pins s σ H Q I ⟨Q', q, w⟩ =>
  thn (h pins s σ H Q' I q) fun v s1 ⟨x, H1, I1, r1, q1⟩ => ⟨x, H1, I1, r1, w x H1 q1⟩
end
end L2
namespace L2
open PySem PySem.Spec PyProof.Rows
noncomputable def Sh (i : Int) : Prop := -1000000 ≤ i ∧ i ≤ 1000000
theorem uH {K : PySem.W.Frag} {H : Hp} : ∀ ns : List Int, Reps K H (ns.map .int) (ns.map V.int)
  | [] => rfl
  | n :: ns => ⟨_, _, rfl, rfl, uH ns⟩
theorem Sh.log {i : Int} (h : Sh i) : i.natAbs.log2 < 20 := by
  obtain ⟨h1, h2⟩ := h
  by_cases h0 : i.natAbs = 0
  · rw [h0]; decide
  · exact (Nat.log2_lt h0).mpr (by omega)
theorem Sh.w {i : Int} (h : Sh i) : PyData.weight (.int i) ≤ 21 := by
  have := h.log
  simp only [PyData.weight]
  split <;> omega
theorem Sh.short {i : Int} (h : Sh i) : PyData.intsShort 13 (.int i) = true := by
  obtain ⟨h1, h2⟩ := h
  have q : (toString i).length ≤ 7 + 1 := int_text_length_le10 (by decide) (show i.natAbs < 10 ^ 7 by omega)
  have e : (PyData.int i).shown.length = (toString i).length := by
    simp only [PyData.shown]
    exact PySem.ofString_length _
  simp only [PyData.intsShort, decide_eq_true_eq]
  omega
end L2
namespace L2
open PySem PySem.Spec PyProof.Rows
end L2
namespace L2
open PySem PySem.Spec PyProof.Rows
inductive W where
  | d (x : PyData)
  | own (a : Addr)
  | row (a : Addr) (i : Nat)
inductive OO where
  | lst (ws : List W)
  | dK (kvs : List (Key × W))
  | ins (C dx : Addr) (fs : List (Str × W))
  | grid (rows : List (List PyData))
  | raw (p : HO → Hp → Prop)
noncomputable abbrev OM := Addr → Option OO
noncomputable def updO (O : OM) (a : Addr) (o : OO) : OM := fun b => if b = a then some o else O b
noncomputable def del (O : OM) (a : Addr) : OM := fun b => if b = a then none else O b
theorem zc {O : OM} {a : Addr} {o : OO} : updO O a o a = some o := by simp [updO]
theorem zf {O : OM} {a b : Addr} {o : OO} (h : b ≠ a) : updO O a o b = O b := by simp [updO, h]
theorem yx {O : OM} {a : Addr} : del O a a = none := by simp [del]
theorem yi {O : OM} {a b : Addr} (h : b ≠ a) : del O a b = O b := by simp [del, h]
theorem kY {O : OM} {a : Addr} {o u : OO} : updO (updO O a o) a u = updO O a u := by
  funext b; unfold updO; split <;> rfl
theorem neO {O : OM} {a b : Addr} {o : OO} (h : O a = some o) (h' : O b = none) : a ≠ b := by
  intro e; subst e; rw [h] at h'; cases h'
structure Gh where
  Z : Hp
  G : Addr → Option (List Addr)
  F : Hp
structure Le (Γ Γ' : Gh) : Prop where
  f : Γ'.F = Γ.F
  z : Same Γ.Z Γ'.Z
  g : ∀ a rs, Γ.G a = some rs → ∃ more, Γ'.G a = some (rs ++ more)
theorem Le.refl (Γ : Gh) : Le Γ Γ := ⟨rfl, Same.refl _, fun _ rs h => ⟨[], by rw [List.append_nil]; exact h⟩⟩
theorem Le.trans {Γ Γ1 Γ2 : Gh} (a : Le Γ Γ1) (b : Le Γ1 Γ2) : Le Γ Γ2 := ⟨b.f.trans a.f, a.z.trans b.z, fun x rs h => by
  obtain ⟨m, h1⟩ := a.g x rs h
  obtain ⟨m2, h2⟩ := b.g x _ h1
  exact ⟨m ++ m2, by rw [← List.append_assoc]; exact h2⟩⟩
theorem Le.zOnly {Γ : Gh} {Z : Hp} (h : Same Γ.Z Z) : Le Γ ⟨Z, Γ.G, Γ.F⟩ := ⟨rfl, h, fun _ rs h => ⟨[], by rw [List.append_nil]; exact h⟩⟩
section
variable (K : PySem.W.Frag)
noncomputable def relW (Γ : Gh) : W → V → Prop
  | .d x, v => Rep K Γ.Z x v
  | .own a, v => v = .ref a
  | .row a i, v => ∃ rs r, Γ.G a = some rs ∧ rs[i]? = some r ∧ v = .ref r
noncomputable abbrev relWs (Γ : Gh) : List W → List V → Prop := Paired (relW K Γ)
noncomputable def ve (Γ : Gh) : Option W → Option V → Prop
  | some w, some v => relW K Γ w v
  | none, _ => True
  | _, _ => False
noncomputable abbrev relR (Γ : Gh) : List (Option W) → St → Prop := Paired (ve K Γ)
noncomputable def vX {κ : Type} (Γ : Gh) : List (κ × W) → List (κ × V) → Prop := Paired fun p q => p.1 = q.1 ∧ relW K Γ p.2 q.2
noncomputable def ObjW (Γ : Gh) (O : OM) (H : Hp) (a : Addr) : OO → Prop
  | .lst ws => ∃ vs, H a = some (.lst vs) ∧ relWs K Γ ws vs
  | .dK kvs => ∃ vs, H a = some (.dK vs) ∧ vX K Γ kvs vs
  | .ins C dx fs => ∃ vs, H a = some (.ins C dx vs) ∧ vX K Γ fs vs
  | .grid rows => ∃ rs, Γ.G a = some rs ∧ H a = some (.lst (rs.map V.ref)) ∧ rs.length = rows.length ∧ rs.Nodup ∧
      ∀ (i : Nat) (r : Addr) (ds : List PyData), rs[i]? = some r → rows[i]? = some ds → Γ.Z r = none ∧ O r = none ∧ ∃ vs, H r = some (.lst vs) ∧ Reps K Γ.Z ds vs
  | .raw p => ∃ o, H a = some o ∧ ∀ Z, Same Γ.Z Z → p o Z
structure Sim (Γ : Gh) (O : OM) (H : Hp) : Prop where
  z : Same Γ.Z H
  o : ∀ a oo, O a = some oo → Γ.Z a = none ∧ ObjW K Γ O H a oo
  gd : ∀ a rs, Γ.G a = some rs → ∃ o, H a = some o
  f : Same Γ.F H
  gn : ∀ a oo, O a = some oo → (∀ rows, oo ≠ .grid rows) → Γ.G a = none
  fg : ∀ a o, Γ.F a = some o → Γ.G a = none
  fd : ∀ a o, Γ.F a = some o → Γ.Z a = none ∧ O a = none ∧ ∀ b rows rs, O b = some (.grid rows) → Γ.G b = some rs → a ∉ rs
  u : ∀ a b ra rb rs ss r, O a = some (.grid ra) → O b = some (.grid rb) → Γ.G a = some rs → Γ.G b = some ss → r ∈ rs → r ∈ ss → a = b
end
section
variable {K : PySem.W.Frag} {Γ Γ' : Gh} {O : OM} {H H' : Hp}
theorem relW.mono (h : Le Γ Γ') : ∀ {w : W} {v : V}, relW K Γ w v → relW K Γ' w v
  | .d x, v, r => Rep.same h.z x v r
  | .own a, v, r => r
  | .row a i, v, ⟨rs, r, e, f, g⟩ => by
    obtain ⟨m, e'⟩ := h.g _ _ e
    have hi : i < rs.length := (List.getElem?_eq_some_iff.mp f).1
    exact ⟨rs ++ m, r, e', by rw [List.getElem?_append_left hi]; exact f, g⟩
theorem relWs.mono (h : Le Γ Γ') {ws : List W} {vs : List V} (r : relWs K Γ ws vs) : relWs K Γ' ws vs := Paired.mapP r fun _ _ z => z.mono h
theorem ve.mono (h : Le Γ Γ') : ∀ {w : Option W} {v : Option V}, ve K Γ w v → ve K Γ' w v
  | some w, some v, r => relW.mono h r
  | none, _, _ => trivial
  | some _, none, r => r.elim
theorem relR.mono (h : Le Γ Γ') {ρ : List (Option W)} {σ : St} (r : relR K Γ ρ σ) : relR K Γ' ρ σ := Paired.mapP r fun _ _ z => z.mono h
theorem vX.mono {κ : Type} (h : Le Γ Γ') {a : List (κ × W)} {b : List (κ × V)} (r : vX K Γ a b) : vX K Γ' a b := Paired.mapP r fun _ _ z => ⟨z.1, z.2.mono h⟩
theorem relR.get {ρ : List (Option W)} {σ : St} : ∀ {i : Nat} {w : W}, relR K Γ ρ σ → ρ[i]? = some (some w) → ∃ v, σ[i]? = some (some v) ∧ relW K Γ w v := by
  intro i w r
  induction r generalizing i with
  | nil => intro e; simp at e
  | cons h t ih =>
    rename_i x y xs ys
    intro e
    cases i with
    | zero =>
      simp at e
      subst e
      cases y with
      | none => exact h.elim
      | some v => exact ⟨v, rfl, h⟩
    | succ i => simpa using ih (i := i) (by simpa using e)
theorem Paired.getP {α β : Type} {F : α → β → Prop} {xs : List α} {ys : List β} (r : Paired F xs ys) : ∀ {i : Nat} {x : α}, xs[i]? = some x → ∃ y, ys[i]? = some y ∧ F x y := by
  induction r with
  | nil => intro i x e; simp at e
  | cons h t ih =>
    intro i x e
    cases i with
    | zero => simp at e; subst e; exact ⟨_, rfl, h⟩
    | succ i => simpa using ih (i := i) (by simpa using e)
theorem Paired.getQ {α β : Type} {F : α → β → Prop} {xs : List α} {ys : List β} (r : Paired F xs ys) : ∀ {i : Nat} {y : β}, ys[i]? = some y → ∃ x, xs[i]? = some x ∧ F x y := by
  induction r with
  | nil => intro i x e; simp at e
  | cons h t ih =>
    intro i x e
    cases i with
    | zero => simp at e; subst e; exact ⟨_, rfl, h⟩
    | succ i => simpa using ih (i := i) (by simpa using e)
theorem Paired.setP {α β : Type} {F : α → β → Prop} {xs : List α} {ys : List β} {x : α} {y : β} (r : Paired F xs ys) (h : F x y) : ∀ {i : Nat}, Paired F (xs.set i x) (ys.set i y) := by
  induction r with
  | nil => intro i; exact .nil
  | cons g t ih =>
    intro i
    cases i with
    | zero => exact .cons h t
    | succ i => exact .cons g ih
theorem Paired.appP {α β : Type} {F : α → β → Prop} {xs xs' : List α} {ys ys' : List β} (r : Paired F xs ys) (s : Paired F xs' ys') : Paired F (xs ++ xs') (ys ++ ys') := by
  induction r with
  | nil => exact s
  | cons h t ih => exact .cons h ih
theorem Paired.takeP {α β : Type} {F : α → β → Prop} {xs : List α} {ys : List β} (r : Paired F xs ys) : ∀ n, Paired F (xs.take n) (ys.take n) := by
  induction r with
  | nil => intro n; simp; exact .nil
  | cons h t ih =>
    intro n
    cases n with
    | zero => exact .nil
    | succ n => exact .cons h (ih n)
theorem Paired.dropP {α β : Type} {F : α → β → Prop} {xs : List α} {ys : List β} (r : Paired F xs ys) : ∀ n, Paired F (xs.drop n) (ys.drop n) := by
  induction r with
  | nil => intro n; simp; exact .nil
  | cons h t ih =>
    intro n
    cases n with
    | zero => exact .cons h t
    | succ n => exact ih n
theorem zD : ∀ {ds : List PyData} {vs : List V}, Reps K Γ.Z ds vs → relWs K Γ (ds.map .d) vs
  | [], _, h => by rw [show _ = [] from h]; exact .nil
  | d :: ds, _, h => by
    obtain ⟨x, r, rfl, h1, h2⟩ := h
    exact .cons h1 (zD h2)
theorem zm : ∀ {ds : List PyData} {vs : List V}, relWs K Γ (ds.map .d) vs → Reps K Γ.Z ds vs
  | [], _, h => by cases h; rfl
  | d :: ds, _, h => by
    cases h with
    | cons a b => exact ⟨_, _, rfl, a, zm b⟩
noncomputable def zj (O : OM) : W → Option (List W)
  | .d (.list ds) => some (ds.map .d)
  | .own a => match O a with
    | some (.lst ws) => some ws
    | some (.grid rows) => some ((List.range rows.length).map (.row a))
    | _ => none
  | .row a i => match O a with
    | some (.grid rows) => (rows[i]?).map (·.map .d)
    | _ => none
  | _ => none
noncomputable def z0 : W → Option (List PyData)
  | .d (.tuple ds) => some ds
  | _ => none
theorem vf {w : W} {v : V} {ds : List PyData} (S : Sim K Γ O H) (r : relW K Γ w v) (e : z0 w = some ds) : ∃ a vs, v = .ref a ∧ SqT K H a vs ∧ relWs K Γ (ds.map .d) vs := by
  cases w with
  | d x =>
    cases x with
    | tuple es =>
      simp [z0] at e
      subst e
      obtain ⟨a, xs, e1, h1, h2⟩ := r
      exact ⟨a, xs, e1, h1.same S.z, zD h2⟩
    | _ => simp [z0] at e
  | own a => simp [z0] at e
  | row a i => simp [z0] at e
theorem zO {w : W} {v : V} {ws : List W} (S : Sim K Γ O H) (r : relW K Γ w v) (e : zj O w = some ws) : ∃ a vs, v = .ref a ∧ SqL K H a vs ∧ relWs K Γ ws vs := by
  cases w with
  | d x =>
    cases x with
    | list es =>
      simp [zj] at e
      subst e
      obtain ⟨a, xs, e1, h1, h2⟩ := r
      exact ⟨a, xs, e1, h1.same S.z, zD h2⟩
    | _ => simp [zj] at e
  | own a =>
    cases (show v = .ref a from r)
    simp only [zj] at e
    split at e
    · rename_i us h
      cases e
      obtain ⟨_, vs, h1, h2⟩ := S.o _ _ h
      exact ⟨a, vs, rfl, SqL.of h1, h2⟩
    · rename_i rows h
      cases e
      obtain ⟨_, rs, hg, h1, hl, _, _⟩ := S.o _ _ h
      refine ⟨a, _, rfl, SqL.of h1, ?_⟩
      rw [← hl]
      have key : ∀ (ss : List Addr) (k : Nat), (∀ i, ss[i]? = rs[k + i]?) → relWs K Γ ((List.range' k ss.length).map (W.row a)) (ss.map V.ref) := by
        intro ss
        induction ss with
        | nil => intro k _; exact .nil
        | cons s ss ih =>
          intro k hk
          refine .cons ⟨rs, s, hg, ?_, rfl⟩ (ih (k + 1) fun i => ?_)
          · have := hk 0; simpa using this.symm
          · have := hk (i + 1)
            rw [List.getElem?_cons_succ] at this
            rw [this]
            congr 1
            omega
      have h0 := key rs 0 (fun i => by rw [Nat.zero_add])
      rw [List.range_eq_range']
      exact h0
    · cases e
  | row a i =>
    obtain ⟨rs, r0, hg, hr, rfl⟩ := r
    simp only [zj] at e
    split at e
    · rename_i rows h
      cases hi : rows[i]? with
      | none => rw [hi] at e; cases e
      | some ds =>
        rw [hi] at e
        cases e
        obtain ⟨_, rs', hg', h1, hl, _, hrow⟩ := S.o _ _ h
        rw [hg] at hg'
        cases hg'
        obtain ⟨_, _, vs, h2, h3⟩ := hrow i r0 ds hr hi
        exact ⟨r0, vs, rfl, SqL.of h2, zD h3⟩
    · cases e
noncomputable def zP : List W → Option (List PyData)
  | [] => some []
  | .d x :: ws => (zP ws).map (x :: ·)
  | _ :: _ => none
theorem zQ : ∀ ds : List PyData, zP (ds.map .d) = some ds
  | [] => rfl
  | d :: ds => by simp [zP, zQ ds]
theorem zX : ∀ {ws : List W} {ds : List PyData}, zP ws = some ds → ws = ds.map .d
  | [], ds, e => by cases e; rfl
  | .d x :: ws, ds, e => by
    simp [zP] at e
    obtain ⟨es, h1, h2⟩ := e
    subst h2
    rw [zX h1]
    rfl
  | .own _ :: _, _, e => by simp [zP] at e
  | .row _ _ :: _, _, e => by simp [zP] at e
noncomputable def uq (O : OM) : W → Option PyData
  | .d x => some x
  | .own a => match O a with
    | some (.lst ws) => (zP ws).map .list
    | some (.grid rows) => some (.list (rows.map .list))
    | _ => none
  | .row a i => match O a with
    | some (.grid rows) => (rows[i]?).map .list
    | _ => none
theorem vK {w : W} {v : V} {x : PyData} (S : Sim K Γ O H) (r : relW K Γ w v) (e : uq O w = some x) : Rep K H x v := by
  cases w with
  | d y => cases e; exact Rep.same S.z _ _ r
  | own a =>
    cases (show v = .ref a from r)
    simp only [uq] at e
    split at e
    · rename_i ws h
      cases hd : zP ws with
      | none => rw [hd] at e; cases e
      | some ds =>
        rw [hd] at e
        cases e
        obtain ⟨_, vs, h1, h2⟩ := S.o _ _ h
        rw [zX hd] at h2
        exact ⟨a, vs, rfl, SqL.of h1, Reps.same S.z _ _ (zm h2)⟩
    · rename_i rows h
      cases e
      obtain ⟨_, rs, hg, h1, hl, _, hrow⟩ := S.o _ _ h
      refine ⟨a, _, rfl, SqL.of h1, ?_⟩
      have key : ∀ (rows : List (List PyData)) (rs : List Addr), rs.length = rows.length → (∀ (i : Nat) (r : Addr) (ds : List PyData), rs[i]? = some r → rows[i]? = some ds → ∃ vs, H r = some (.lst vs) ∧ Reps K Γ.Z ds vs) → Reps K H (rows.map .list) (rs.map V.ref) := by
        intro rows
        induction rows with
        | nil => intro rs hl _; cases rs with | nil => rfl | cons _ _ => simp at hl
        | cons row rows ih =>
          intro rs hl hr
          cases rs with
          | nil => simp at hl
          | cons r rs =>
            obtain ⟨vs, h1, h2⟩ := hr 0 r row rfl rfl
            exact ⟨.ref r, _, rfl, ⟨r, vs, rfl, SqL.of h1, Reps.same S.z _ _ h2⟩, ih rs (by simpa using hl) fun i r ds a b => hr (i + 1) r ds (by simpa using a) (by simpa using b)⟩
      exact key rows rs hl fun i r ds a b => (hrow i r ds a b).2.2
    · cases e
  | row a i =>
    obtain ⟨rs, r0, hg, hr, rfl⟩ := r
    simp only [uq] at e
    split at e
    · rename_i rows h
      cases hi : rows[i]? with
      | none => rw [hi] at e; cases e
      | some ds =>
        rw [hi] at e
        cases e
        obtain ⟨_, rs', hg', h1, hl, _, hrow⟩ := S.o _ _ h
        rw [hg] at hg'
        cases hg'
        obtain ⟨_, _, vs, h2, h3⟩ := hrow i r0 ds hr hi
        exact ⟨r0, vs, rfl, SqL.of h2, Reps.same S.z _ _ h3⟩
    · cases e
theorem Sim.free (S : Sim K Γ O H) {p : Addr} (hp : H p = none) : Γ.Z p = none ∧ O p = none ∧ Γ.G p = none := by
  refine ⟨S.z.free hp, ?_, ?_⟩
  · cases e : O p with
    | none => rfl
    | some oo =>
      obtain ⟨_, h⟩ := S.o _ _ e
      cases oo with
      | lst ws => obtain ⟨vs, h1, _⟩ := h; rw [hp] at h1; cases h1
      | dK ws => obtain ⟨vs, h1, _⟩ := h; rw [hp] at h1; cases h1
      | ins C dx ws => obtain ⟨vs, h1, _⟩ := h; rw [hp] at h1; cases h1
      | grid rows => obtain ⟨rs, _, h1, _⟩ := h; rw [hp] at h1; cases h1
      | raw p => obtain ⟨o, h1, _⟩ := h; rw [hp] at h1; cases h1
  · cases e : Γ.G p with
    | none => rfl
    | some rs =>
      obtain ⟨o, h⟩ := S.gd _ _ e
      rw [hp] at h
      cases h
theorem ObjW.keep {a : Addr} {oo : OO} (h : ObjW K Γ O H a oo) (hl : Le Γ Γ') {O' : OM} (ha : H' a = H a) (hG : Γ'.G a = Γ.G a) (hr : ∀ rs r, Γ.G a = some rs → (∃ rows, oo = .grid rows) → r ∈ rs → H' r = H r ∧ Γ'.Z r = Γ.Z r ∧ O' r = O r) : ObjW K Γ' O' H' a oo := by
  cases oo with
  | lst ws => obtain ⟨vs, h1, h2⟩ := h; exact ⟨vs, by rw [ha]; exact h1, h2.mono hl⟩
  | dK ws => obtain ⟨vs, h1, h2⟩ := h; exact ⟨vs, by rw [ha]; exact h1, h2.mono hl⟩
  | ins C dx ws => obtain ⟨vs, h1, h2⟩ := h; exact ⟨vs, by rw [ha]; exact h1, h2.mono hl⟩
  | raw p => obtain ⟨o, h1, h2⟩ := h; exact ⟨o, by rw [ha]; exact h1, fun Z hZ => h2 Z (hl.z.trans hZ)⟩
  | grid rows =>
    obtain ⟨rs, hg, h1, h2, hn, h3⟩ := h
    refine ⟨rs, by rw [hG]; exact hg, by rw [ha]; exact h1, h2, hn, fun i r ds e1 e2 => ?_⟩
    obtain ⟨q1, q2, q3⟩ := hr rs r hg ⟨rows, rfl⟩ (List.mem_of_getElem? e1)
    obtain ⟨z1, z2, vs, z3, z4⟩ := h3 i r ds e1 e2
    exact ⟨by rw [q2]; exact z1, by rw [q3]; exact z2, vs, by rw [q1]; exact z3, Reps.same hl.z _ _ z4⟩
theorem Sim.rowIn (S : Sim K Γ O H) {a : Addr} {rows : List (List PyData)} {rs : List Addr} {r : Addr} (ho : O a = some (.grid rows)) (hg : Γ.G a = some rs) (hr : r ∈ rs) : Γ.Z r = none ∧ O r = none ∧ ∃ vs, H r = some (.lst vs) := by
  obtain ⟨_, rs', hg', h1, hl, _, hrow⟩ := S.o _ _ ho
  rw [hg] at hg'
  cases hg'
  obtain ⟨i, hi, rfl⟩ := List.mem_iff_getElem.mp hr
  obtain ⟨z1, z2, vs, z3, _⟩ := hrow i rs[i] (rows[i]'(by omega)) (List.getElem?_eq_getElem hi) (List.getElem?_eq_getElem (by omega))
  exact ⟨z1, z2, vs, z3⟩
theorem Sim.newD (S : Sim K Γ O H) {p : Addr} (hp : H p = none) (o : HO) : Le Γ ⟨upd Γ.Z p o, Γ.G, Γ.F⟩ ∧ Sim K ⟨upd Γ.Z p o, Γ.G, Γ.F⟩ O (upd H p o) := by
  obtain ⟨hz, hO, hG⟩ := S.free hp
  have le : Le Γ ⟨upd Γ.Z p o, Γ.G, Γ.F⟩ := Le.zOnly (zZ hz)
  have hF := S.f.free hp
  refine ⟨le, ⟨fun b u e => ?_, fun a oo e => ?_, fun a rs e => ?_, xE S.f hF, S.gn, S.fg, fun a o' e => ?_, S.u⟩⟩
  · replace e : upd Γ.Z p o b = some u := e
    by_cases hb : b = p
    · subst hb; rw [zh] at e; rw [zh]; exact e
    · rw [zb hb] at e; rw [zb hb]; exact S.z _ _ e
  · have hap : a ≠ p := fun z => by rw [z, hO] at e; cases e
    obtain ⟨h1, h2⟩ := S.o _ _ e
    refine ⟨by show upd Γ.Z p o a = none; rw [zb hap]; exact h1, h2.keep le (zb hap) rfl fun rs r hg ⟨rows, hrw⟩ hr => ?_⟩
    subst hrw
    obtain ⟨_, _, vs, q⟩ := S.rowIn e hg hr
    have hrp : r ≠ p := fun z => by rw [z, hp] at q; cases q
    exact ⟨zb hrp, zb hrp, rfl⟩
  · obtain ⟨o', h⟩ := S.gd _ _ e
    exact ⟨o', by rw [zb (zy h hp)]; exact h⟩
  · obtain ⟨q1, q2, q3⟩ := S.fd a o' e
    exact ⟨(zb (zy e hF)).trans q1, q2, q3⟩
theorem Sim.newO (S : Sim K Γ O H) {p : Addr} (hp : H p = none) {o : HO} {oo : OO} (hg : ∀ rows, oo ≠ .grid rows) (ho : ObjW K Γ O (upd H p o) p oo) : Sim K Γ (updO O p oo) (upd H p o) := by
  obtain ⟨hz, hO, hG⟩ := S.free hp
  have hF := S.f.free hp
  have k1 : ∀ {x : Addr} {rx : List (List PyData)}, updO O p oo x = some (.grid rx) → O x = some (.grid rx) := fun {x rx} h => by
    by_cases hx : x = p
    · subst hx; rw [zc] at h; cases h; exact absurd rfl (hg rx)
    · rw [zf hx] at h; exact h
  refine ⟨fun b u e => ?_, fun a o' e => ?_, fun a rs e => ?_, xE S.f hF, fun a o' e hn => ?_, S.fg, fun a o' e => ?_, fun a b ra rb rs ss r e1 e2 => S.u a b ra rb rs ss r (k1 e1) (k1 e2)⟩
  · rw [zb (fun z => by rw [z, hz] at e; cases e)]; exact S.z _ _ e
  · by_cases hap : a = p
    · subst hap
      rw [zc] at e
      cases e
      refine ⟨hz, ho.keep (Le.refl _) rfl rfl fun rs r h1 ⟨rows, h2⟩ => absurd h2 (hg rows)⟩
    · rw [zf hap] at e
      obtain ⟨h1, h2⟩ := S.o _ _ e
      refine ⟨h1, h2.keep (Le.refl _) (zb hap) rfl fun rs r hg' ⟨rows, hrw⟩ hr => ?_⟩
      subst hrw
      obtain ⟨_, q2, vs, q⟩ := S.rowIn e hg' hr
      have hrp : r ≠ p := fun z => by rw [z, hp] at q; cases q
      exact ⟨zb hrp, rfl, zf hrp⟩
  · obtain ⟨o', h⟩ := S.gd _ _ e
    exact ⟨o', by rw [zb (zy h hp)]; exact h⟩
  · by_cases hap : a = p
    · rw [hap]; exact hG
    · rw [zf hap] at e; exact S.gn a o' e hn
  · obtain ⟨q1, q2, q3⟩ := S.fd a o' e
    exact ⟨q1, by rw [zf (zy e hF)]; exact q2, fun b rows rs e1 => q3 b rows rs (k1 e1)⟩
theorem Sim.put (S : Sim K Γ O H) {a : Addr} {oo o1 : OO} {o : HO} (h0 : O a = some o1) (hn : ∀ rows, o1 ≠ .grid rows) (hg : ∀ rows, oo ≠ .grid rows) (ho : ObjW K Γ O (upd H a o) a oo) : Sim K Γ (updO O a oo) (upd H a o) := by
  obtain ⟨hz, h1⟩ := S.o _ _ h0
  have k1 : ∀ {x : Addr} {rx : List (List PyData)}, updO O a oo x = some (.grid rx) → O x = some (.grid rx) := fun {x rx} h => by
    by_cases hx : x = a
    · subst hx; rw [zc] at h; cases h; exact absurd rfl (hg rx)
    · rw [zf hx] at h; exact h
  have nF : ∀ b o', Γ.F b = some o' → b ≠ a := fun b o' e z => by
    have := (S.fd b o' e).2.1
    rw [z, h0] at this; cases this
  refine ⟨fun b u e => ?_, fun x o' e => ?_, fun x rs e => ?_, fun b u e => ?_, fun x o' e hn' => ?_, S.fg, fun x o' e => ?_, fun x b ra rb rs ss r e1 e2 => S.u x b ra rb rs ss r (k1 e1) (k1 e2)⟩
  · rw [zb (fun z => by rw [z, hz] at e; cases e)]; exact S.z _ _ e
  · by_cases hap : x = a
    · subst hap
      rw [zc] at e
      cases e
      exact ⟨hz, ho.keep (Le.refl _) rfl rfl fun rs r h1 ⟨rows, h2⟩ => absurd h2 (hg rows)⟩
    · rw [zf hap] at e
      obtain ⟨h1, h2⟩ := S.o _ _ e
      refine ⟨h1, h2.keep (Le.refl _) (zb hap) rfl fun rs r hg' ⟨rows, hrw⟩ hr => ?_⟩
      subst hrw
      obtain ⟨_, q2, vs, q⟩ := S.rowIn e hg' hr
      have hrp : r ≠ a := fun z => by rw [z, h0] at q2; cases q2
      exact ⟨zb hrp, rfl, zf hrp⟩
  · obtain ⟨o', h⟩ := S.gd _ _ e
    by_cases hx : x = a
    · exact ⟨o, by rw [hx, zh]⟩
    · exact ⟨o', by rw [zb hx]; exact h⟩
  · rw [zb (nF _ _ e)]; exact S.f _ _ e
  · by_cases hap : x = a
    · rw [hap]; exact S.gn a o1 h0 hn
    · rw [zf hap] at e; exact S.gn x o' e hn'
  · obtain ⟨q1, q2, q3⟩ := S.fd x o' e
    exact ⟨q1, by rw [zf (nF _ _ e)]; exact q2, fun b rows rs e1 => q3 b rows rs (k1 e1)⟩
theorem Sim.drop (S : Sim K Γ O H) (a : Addr) : Sim K Γ (del O a) H := by
  have k1 : ∀ {x : Addr} {o : OO}, del O a x = some o → x ≠ a ∧ O x = some o := fun {x o} h => by
    by_cases hx : x = a
    · subst hx; rw [yx] at h; cases h
    · rw [yi hx] at h; exact ⟨hx, h⟩
  refine ⟨S.z, fun x o e => ?_, S.gd, S.f, fun x o e hn => S.gn x o (k1 e).2 hn, S.fg, fun x o e => ⟨(S.fd x o e).1, by unfold del; split; rfl; exact (S.fd x o e).2.1, fun b rows rs e1 => (S.fd x o e).2.2 b rows rs (k1 e1).2⟩, fun x b ra rb rs ss r e1 e2 => S.u x b ra rb rs ss r (k1 e1).2 (k1 e2).2⟩
  obtain ⟨hx, e⟩ := k1 e
  obtain ⟨h1, h2⟩ := S.o _ _ e
  refine ⟨h1, h2.keep (Le.refl _) rfl rfl fun rs r hg ⟨rows, hrw⟩ hr => ?_⟩
  subst hrw
  obtain ⟨_, q2, _⟩ := S.rowIn e hg hr
  refine ⟨rfl, rfl, ?_⟩
  rw [q2]
  unfold del
  split
  · rfl
  · exact q2
theorem Sim.freeze (S : Sim K Γ O H) {a : Addr} {ds : List PyData} (h : O a = some (.lst (ds.map .d))) : ∃ Γ', Le Γ Γ' ∧ Sim K Γ' (del O a) H ∧ relW K Γ' (.d (.list ds)) (.ref a) := by
  obtain ⟨hz, vs, h1, h2⟩ := S.o _ _ h
  have le : Le Γ ⟨upd Γ.Z a (.lst vs), Γ.G, Γ.F⟩ := Le.zOnly (zZ hz)
  have S1 := S.drop a
  have nF : ∀ b o', Γ.F b = some o' → b ≠ a := fun b o' e z => by
    have := (S.fd b o' e).2.1
    rw [z, h] at this; cases this
  refine ⟨⟨upd Γ.Z a (.lst vs), Γ.G, Γ.F⟩, le, ⟨fun b u e => ?_, fun x o e => ?_, S.gd, S.f, S1.gn, S.fg, fun x o e => ⟨(zb (nF x o e)).trans (S1.fd x o e).1, (S1.fd x o e).2⟩, S1.u⟩, ⟨a, vs, rfl, SqL.of zh, Reps.same le.z _ _ (zm h2)⟩⟩
  · replace e : upd Γ.Z a (.lst vs) b = some u := e
    by_cases hb : b = a
    · subst hb; rw [zh] at e; cases e; exact h1
    · rw [zb hb] at e; exact S.z _ _ e
  · have hx : x ≠ a := fun z => by rw [z, yx] at e; cases e
    obtain ⟨q1, q2⟩ := S1.o _ _ e
    refine ⟨by show upd Γ.Z a _ x = none; rw [zb hx]; exact q1, q2.keep le rfl rfl fun rs r hg ⟨rows, hrw⟩ hr => ⟨rfl, ?_, rfl⟩⟩
    subst hrw
    rw [yi hx] at e
    obtain ⟨_, q2, _⟩ := S.rowIn e hg hr
    exact zb (fun z => by rw [z, h] at q2; cases q2)
theorem Sim.cell (S : Sim K Γ O H) {a r : Addr} {rows : List (List PyData)} {rs : List Addr} {i j : Nat} {ds : List PyData} {vs : List V} {x : PyData} {v : V} (h0 : O a = some (.grid rows)) (hg : Γ.G a = some rs) (hr : rs[i]? = some r) (hd : rows[i]? = some ds)
    (hv : H r = some (.lst vs)) (rx : Rep K Γ.Z x v) : Sim K Γ (updO O a (.grid (rows.set i (ds.set j x)))) (upd H r (.lst (vs.set j v))) := by
  obtain ⟨hz, rs', hg', h1, hl, hn, hrow⟩ := S.o _ _ h0
  rw [hg] at hg'
  cases hg'
  obtain ⟨z1, z2, vs', z3, z4⟩ := hrow i r ds hr hd
  rw [hv] at z3
  cases z3
  have har : a ≠ r := fun e => by rw [← e, h0] at z2; cases z2
  have nF : ∀ b o', Γ.F b = some o' → b ≠ r := fun b o' e z => (S.fd b o' e).2.2 a rows rs h0 hg (by rw [z]; exact List.mem_of_getElem? hr)
  have nFa : ∀ b o', Γ.F b = some o' → b ≠ a := fun b o' e z => by
    have := (S.fd b o' e).2.1
    rw [z, h0] at this; cases this
  have kg : ∀ {b : Addr} {rb : List (List PyData)}, updO O a (.grid (rows.set i (ds.set j x))) b = some (.grid rb) → ∃ ry, O b = some (.grid ry) := fun {b rb} e1 => by
    by_cases hx : b = a
    · exact ⟨rows, by rw [hx]; exact h0⟩
    · rw [zf hx] at e1; exact ⟨rb, e1⟩
  refine ⟨fun b u e => ?_, fun b oo e => ?_, fun b ss e => ?_, fun b u e => by rw [zb (nF _ _ e)]; exact S.f _ _ e, fun b o' e hn' => ?_, S.fg, fun b o' e => ⟨(S.fd b o' e).1, by rw [zf (nFa _ _ e)]; exact (S.fd b o' e).2.1, fun c rc ss e1 g1 => by obtain ⟨ry, e2⟩ := kg e1; exact (S.fd b o' e).2.2 c ry ss e2 g1⟩, fun b c rb rc ss tt q e1 e2 h3 h4 h5 h6 => ?_⟩
  · rw [zb (fun z => by rw [z, z1] at e; cases e)]; exact S.z _ _ e
  · by_cases hb : b = a
    · subst hb
      rw [zc] at e
      cases e
      refine ⟨hz, rs, hg, by rw [zb har]; exact h1, by rw [List.length_set]; exact hl, hn, fun k q es e1 e2 => ?_⟩
      have hq : O q = none := (S.rowIn h0 hg (List.mem_of_getElem? e1)).2.1
      have hqb : q ≠ b := fun e => by rw [e, h0] at hq; cases hq
      by_cases hk : k = i
      · subst hk
        rw [hr] at e1
        cases e1
        rw [List.getElem?_set_self (List.getElem?_eq_some_iff.mp hd).1] at e2
        cases e2
        refine ⟨z1, by rw [zf hqb]; exact z2, _, zh, ?_⟩
        have hw := zD (Γ := Γ) z4
        have hw2 := Paired.setP hw (show relW K Γ (.d x) v from rx) (i := j)
        rw [← List.map_set] at hw2
        exact zm hw2
      · have hne : q ≠ r := fun e => by
          rw [e] at e1
          obtain ⟨l1, g1⟩ := List.getElem?_eq_some_iff.mp e1
          obtain ⟨l2, g2⟩ := List.getElem?_eq_some_iff.mp hr
          exact hk ((List.getElem_inj hn).mp (g1.trans g2.symm))
        rw [List.getElem?_set_ne (Ne.symm hk)] at e2
        obtain ⟨y1, y2, ws, y3, y4⟩ := hrow k q es e1 e2
        exact ⟨y1, by rw [zf hqb]; exact y2, ws, by rw [zb hne]; exact y3, y4⟩
    · rw [zf hb] at e
      obtain ⟨q1, q2⟩ := S.o _ _ e
      have hbr : b ≠ r := fun z => by rw [z, z2] at e; cases e
      refine ⟨q1, q2.keep (Le.refl _) (zb hbr) rfl fun ss q hgs ⟨rows', hrw⟩ hq => ?_⟩
      subst hrw
      obtain ⟨w1, w2, ws, w3⟩ := S.rowIn e hgs hq
      have hqr : q ≠ r := fun z => hb (S.u b a rows' rows ss rs q e h0 hgs hg hq (by rw [z]; exact List.mem_of_getElem? hr))
      exact ⟨zb hqr, rfl, zf (fun z => by rw [z, h0] at w2; cases w2)⟩
  · obtain ⟨o, h⟩ := S.gd _ _ e
    by_cases hb : b = r
    · exact ⟨_, by rw [hb, zh]⟩
    · exact ⟨o, by rw [zb hb]; exact h⟩
  · by_cases hb : b = a
    · subst hb; rw [zc] at e; cases e; exact absurd rfl (hn' _)
    · rw [zf hb] at e; exact S.gn b o' e hn'
  · obtain ⟨r1, f1⟩ := kg e1
    obtain ⟨r2, f2⟩ := kg e2
    exact S.u b c r1 r2 ss tt q f1 f2 h3 h4 h5 h6
theorem Sim.absorb (S : Sim K Γ O H) {a b : Addr} {rows : List (List PyData)} {rs : List Addr} {ds : List PyData} (h0 : O a = some (.grid rows)) (hg : Γ.G a = some rs) (hb : O b = some (.lst (ds.map .d))) :
    H a = some (.lst (rs.map V.ref)) ∧ rs.length = rows.length ∧ ∃ Γ', Le Γ Γ' ∧ Sim K Γ' (updO (del O b) a (.grid (rows ++ [ds]))) (upd H a (.lst (rs.map V.ref ++ [.ref b]))) := by
  obtain ⟨hz, rs', hg', h1, hl, hn, hrow⟩ := S.o _ _ h0
  rw [hg] at hg'
  cases hg'
  obtain ⟨hzb, vb, hb1, hb2⟩ := S.o _ _ hb
  have hab : a ≠ b := fun e => by rw [e, hb] at h0; cases h0
  have hbr : b ∉ rs := fun m => by
    obtain ⟨_, q, _⟩ := S.rowIn h0 hg m
    rw [hb] at q; cases q
  have le : Le Γ ⟨Γ.Z, fun x => if x = a then some (rs ++ [b]) else Γ.G x, Γ.F⟩ := ⟨rfl, Same.refl _, fun x ss h => by
    by_cases hx : x = a
    · subst hx; rw [hg] at h; cases h; exact ⟨[b], by simp⟩
    · exact ⟨[], by simp [hx, h]⟩⟩
  have nFa : ∀ c o', Γ.F c = some o' → c ≠ a := fun c o' e z => by
    have := (S.fd c o' e).2.1
    rw [z, h0] at this; cases this
  have nFb : ∀ c o', Γ.F c = some o' → c ≠ b := fun c o' e z => by
    have := (S.fd c o' e).2.1
    rw [z, hb] at this; cases this
  have k1 : ∀ {x : Addr} {rx : List (List PyData)}, updO (del O b) a (.grid (rows ++ [ds])) x = some (.grid rx) → ∃ ry, O x = some (.grid ry) := fun {x rx} h => by
    by_cases hx : x = a
    · exact ⟨rows, by rw [hx]; exact h0⟩
    · rw [zf hx] at h
      by_cases hxb : x = b
      · rw [hxb, yx] at h; cases h
      · rw [yi hxb] at h; exact ⟨rx, h⟩
  refine ⟨h1, hl, _, le, ⟨fun x u e => ?_, fun x oo e => ?_, fun x ss e => ?_, fun c u e => by rw [zb (nFa _ _ e)]; exact S.f _ _ e, fun x o' e hn' => ?_, fun c o' e => by have hne := nFa c o' e; simpa [hne] using S.fg c o' e, fun c o' e => ⟨(S.fd c o' e).1, by rw [zf (nFa _ _ e), yi (nFb _ _ e)]; exact (S.fd c o' e).2.1, fun d rd ss e1 g1 => ?_⟩, fun x y ra rb ss tt r e1 e2 g1 g2 m1 m2 => ?_⟩⟩
  · rw [zb (fun z => by rw [z, show ({ Z := Γ.Z, G := fun x => if x = a then some (rs ++ [b]) else Γ.G x, F := Γ.F } : Gh).Z a = none from hz] at e; cases e)]; exact S.z _ _ e
  · by_cases hx : x = a
    · subst hx
      rw [zc] at e
      cases e
      refine ⟨hz, rs ++ [b], by simp, by rw [zh, List.map_append]; rfl, by simp [hl], ?_, fun i r es e1 e2 => ?_⟩
      · rw [List.nodup_append]
        exact ⟨hn, by simp, fun u hu v hv => by simp at hv; subst hv; exact fun z => hbr (by rw [← z]; exact hu)⟩
      · by_cases hi : i < rs.length
        · rw [List.getElem?_append_left hi] at e1
          rw [List.getElem?_append_left (by omega)] at e2
          obtain ⟨y1, y2, ws, y3, y4⟩ := hrow i r es e1 e2
          have hrx : r ≠ x := fun z => by rw [z, h0] at y2; cases y2
          refine ⟨y1, ?_, ws, by rw [zb hrx]; exact y3, y4⟩
          rw [zf hrx]
          unfold del
          split
          · rfl
          · exact y2
        · have hi2 : i = rs.length := by
            have := (List.getElem?_eq_some_iff.mp e1).1
            simp at this; omega
          subst hi2
          rw [List.getElem?_append_right (Nat.le_refl _)] at e1
          simp at e1
          subst e1
          rw [hl, List.getElem?_append_right (Nat.le_refl _)] at e2
          simp at e2
          subst e2
          exact ⟨hzb, by rw [zf (Ne.symm hab), yx], vb, by rw [zb (Ne.symm hab)]; exact hb1, zm (Γ := Γ) hb2⟩
    · rw [zf hx] at e
      have hxb : x ≠ b := fun z => by rw [z, yx] at e; cases e
      rw [yi hxb] at e
      obtain ⟨q1, q2⟩ := S.o _ _ e
      refine ⟨q1, q2.keep le (zb hx) (by simp [hx]) fun ss r hgs ⟨rows', hrw⟩ hq => ?_⟩
      subst hrw
      obtain ⟨w1, w2, ws, w3⟩ := S.rowIn e hgs hq
      have hra : r ≠ a := fun z => by rw [z, h0] at w2; cases w2
      have hrb : r ≠ b := fun z => by rw [z, hb] at w2; cases w2
      exact ⟨zb hra, rfl, by rw [zf hra, yi hrb]⟩
  · by_cases hx : x = a
    · exact ⟨_, by rw [hx, zh]⟩
    · obtain ⟨o, h⟩ := S.gd x ss (by simpa [hx] using e)
      exact ⟨o, by rw [zb hx]; exact h⟩
  · by_cases hx : x = a
    · subst hx; rw [zc] at e; cases e; exact absurd rfl (hn' _)
    · rw [zf hx] at e
      by_cases hxb : x = b
      · rw [hxb, yx] at e; cases e
      · rw [yi hxb] at e
        simpa [hx] using S.gn x o' e hn'
  · by_cases hd : d = a
    · subst hd
      simp at g1
      subst g1
      intro m
      rcases List.mem_append.mp m with m | m
      · exact (S.fd c o' e).2.2 d rows rs h0 hg m
      · simp at m; exact nFb _ _ e m
    · obtain ⟨ry, e2⟩ := k1 e1
      exact (S.fd c o' e).2.2 d ry ss e2 (by simpa [hd] using g1)
  · obtain ⟨r1, f1⟩ := k1 e1
    obtain ⟨r2, f2⟩ := k1 e2
    have nb : ∀ {z : Addr} {rz : List (List PyData)} {sz : List Addr}, O z = some (.grid rz) → Γ.G z = some sz → b ∉ sz := fun hz1 hz2 m => by
      obtain ⟨_, q, _⟩ := S.rowIn hz1 hz2 m
      rw [hb] at q; cases q
    by_cases hx : x = a
    · by_cases hy : y = a
      · rw [hx, hy]
      · have g2' : Γ.G y = some tt := by simpa [hy] using g2
        rw [hx] at g1 ⊢
        simp at g1
        subst g1
        rcases List.mem_append.mp m1 with m | m
        · exact S.u a y rows r2 rs tt r h0 f2 hg g2' m m2
        · simp at m; subst m; exact absurd m2 (nb f2 g2')
    · have g1' : Γ.G x = some ss := by simpa [hx] using g1
      by_cases hy : y = a
      · rw [hy] at g2 ⊢
        simp at g2
        subst g2
        rcases List.mem_append.mp m2 with m | m
        · exact S.u x a r1 rows ss rs r f1 h0 g1' hg m1 m
        · simp at m; subst m; exact absurd m1 (nb f1 g1')
      · exact S.u x y r1 r2 ss tt r f1 f2 g1' (by simpa [hy] using g2) m1 m2
theorem relW.setF {F : Hp} : ∀ {w : W} {v : V}, relW K Γ w v → relW K ⟨Γ.Z, Γ.G, F⟩ w v
  | .d _, _, h => h
  | .own _, _, h => h
  | .row _ _, _, h => h
theorem relR.setF {F : Hp} {ρ : List (Option W)} {σ : St} (r : relR K Γ ρ σ) : relR K ⟨Γ.Z, Γ.G, F⟩ ρ σ := Paired.mapP r fun a b h => by
  cases a with
  | none => trivial
  | some w => cases b with
    | none => exact h
    | some v => exact relW.setF h
theorem ObjW.setF {F : Hp} {a : Addr} {oo : OO} (h : ObjW K Γ O H a oo) : ObjW K ⟨Γ.Z, Γ.G, F⟩ O H a oo := by
  cases oo with
  | lst ws => obtain ⟨vs, h1, h2⟩ := h; exact ⟨vs, h1, Paired.mapP h2 fun _ _ z => z.setF⟩
  | dK ws => obtain ⟨vs, h1, h2⟩ := h; exact ⟨vs, h1, Paired.mapP h2 fun _ _ z => ⟨z.1, z.2.setF⟩⟩
  | ins C dx ws => obtain ⟨vs, h1, h2⟩ := h; exact ⟨vs, h1, Paired.mapP h2 fun _ _ z => ⟨z.1, z.2.setF⟩⟩
  | grid rows => exact h
  | raw p => exact h
theorem Sim.frameNew (S : Sim K Γ O H) {p : Addr} (hp : H p = none) (o : HO) : Sim K ⟨Γ.Z, Γ.G, upd Γ.F p o⟩ O (upd H p o) := by
  obtain ⟨hz, hO, hG⟩ := S.free hp
  have key : ∀ a o', upd Γ.F p o a = some o' → a = p ∨ (a ≠ p ∧ Γ.F a = some o') := fun a o' e => by
    by_cases ha : a = p
    · exact .inl ha
    · rw [zb ha] at e; exact .inr ⟨ha, e⟩
  refine ⟨fun b u e => ?_, fun a oo e => ?_, fun a rs e => ?_, fun b u e => ?_, S.gn, fun a o' e => ?_, fun a o' e => ?_, S.u⟩
  · rw [zb (fun z => by rw [z, show ({ Z := Γ.Z, G := Γ.G, F := upd Γ.F p o } : Gh).Z p = none from hz] at e; cases e)]; exact S.z _ _ e
  · have hap : a ≠ p := fun z => by rw [z, hO] at e; cases e
    obtain ⟨h1, h2⟩ := S.o _ _ e
    refine ⟨h1, (h2.keep (Le.refl _) (zb hap) rfl fun rs r hg ⟨rows, hrw⟩ hr => ?_).setF⟩
    subst hrw
    obtain ⟨_, _, vs, q⟩ := S.rowIn e hg hr
    exact ⟨zb (fun z => by rw [z, hp] at q; cases q), rfl, rfl⟩
  · obtain ⟨o', h⟩ := S.gd _ _ e
    exact ⟨o', by rw [zb (zy h hp)]; exact h⟩
  · replace e : upd Γ.F p o b = some u := e
    rcases key b u e with rfl | ⟨hb, e'⟩
    · rw [zh] at e ⊢; exact e
    · rw [zb hb]; exact S.f _ _ e'
  · rcases key a o' e with rfl | ⟨hb, e'⟩
    · exact hG
    · exact S.fg _ _ e'
  · rcases key a o' e with rfl | ⟨hb, e'⟩
    · refine ⟨hz, hO, fun b rows rs e1 g1 m => ?_⟩
      obtain ⟨_, _, vs, q⟩ := S.rowIn e1 g1 m
      rw [hp] at q; cases q
    · exact S.fd _ _ e'
theorem Sim.framePut (S : Sim K Γ O H) {a : Addr} {o1 : HO} (h : Γ.F a = some o1) (o : HO) : Sim K ⟨Γ.Z, Γ.G, upd Γ.F a o⟩ O (upd H a o) := by
  obtain ⟨hz, hO, hr⟩ := S.fd _ _ h
  have hG := S.fg _ _ h
  have key : ∀ b o', upd Γ.F a o b = some o' → b = a ∨ (b ≠ a ∧ Γ.F b = some o') := fun b o' e => by
    by_cases ha : b = a
    · exact .inl ha
    · rw [zb ha] at e; exact .inr ⟨ha, e⟩
  refine ⟨fun b u e => ?_, fun b oo e => ?_, fun b rs e => ?_, fun b u e => ?_, S.gn, fun b o' e => ?_, fun b o' e => ?_, S.u⟩
  · rw [zb (fun z => by rw [z, show ({ Z := Γ.Z, G := Γ.G, F := upd Γ.F a o } : Gh).Z a = none from hz] at e; cases e)]; exact S.z _ _ e
  · have hap : b ≠ a := fun z => by rw [z, hO] at e; cases e
    obtain ⟨h1, h2⟩ := S.o _ _ e
    refine ⟨h1, (h2.keep (Le.refl _) (zb hap) rfl fun rs r hg ⟨rows, hrw⟩ hm => ?_).setF⟩
    subst hrw
    exact ⟨zb (fun z => hr b rows rs e hg (by rw [← z]; exact hm)), rfl, rfl⟩
  · obtain ⟨o', h⟩ := S.gd _ _ e
    by_cases hb : b = a
    · exact ⟨o, by rw [hb, zh]⟩
    · exact ⟨o', by rw [zb hb]; exact h⟩
  · replace e : upd Γ.F a o b = some u := e
    rcases key b u e with rfl | ⟨hb, e'⟩
    · rw [zh] at e ⊢; exact e
    · rw [zb hb]; exact S.f _ _ e'
  · rcases key b o' e with rfl | ⟨hb, e'⟩
    · exact hG
    · exact S.fg _ _ e'
  · rcases key b o' e with rfl | ⟨hb, e'⟩
    · exact ⟨hz, hO, hr⟩
    · exact S.fd _ _ e'
theorem Sim.unframe (S : Sim K Γ O H) {a : Addr} {ds : List PyData} {vs : List V} {F : Hp} (hF : Γ.F = upd F a (.lst vs)) (h0 : F a = none) (hr : Reps K Γ.Z ds vs) :
    Same Γ.Z (upd Γ.Z a (.lst vs)) ∧ Sim K ⟨upd Γ.Z a (.lst vs), Γ.G, F⟩ O H ∧ relW K ⟨upd Γ.Z a (.lst vs), Γ.G, F⟩ (.d (.list ds)) (.ref a) := by
  have hFa : Γ.F a = some (.lst vs) := by rw [hF, zh]
  obtain ⟨hz, hO, hrow⟩ := S.fd _ _ hFa
  have le : Le Γ ⟨upd Γ.Z a (.lst vs), Γ.G, Γ.F⟩ := Le.zOnly (zZ hz)
  have kF : ∀ b o, F b = some o → b ≠ a ∧ Γ.F b = some o := fun b o e => by
    have hb : b ≠ a := fun z => by rw [z, h0] at e; cases e
    exact ⟨hb, by rw [hF, zb hb]; exact e⟩
  refine ⟨zZ hz, ⟨fun b u e => ?_, fun b oo e => ?_, S.gd, fun b u e => S.f _ _ (kF b u e).2, S.gn, fun b o e => S.fg b o (kF b o e).2, fun b o e => ⟨(zb (kF b o e).1).trans (S.fd b o (kF b o e).2).1, (S.fd b o (kF b o e).2).2⟩, S.u⟩, ⟨a, vs, rfl, SqL.of zh, Reps.same (zZ hz) _ _ hr⟩⟩
  · replace e : upd Γ.Z a (.lst vs) b = some u := e
    by_cases hb : b = a
    · subst hb; rw [zh] at e; cases e; exact S.f _ _ hFa
    · rw [zb hb] at e; exact S.z _ _ e
  · obtain ⟨q1, q2⟩ := S.o _ _ e
    have hb : b ≠ a := fun z => by rw [z, hO] at e; cases e
    refine ⟨(zb hb).trans q1, (q2.keep le rfl rfl fun rs r hg ⟨rows, hrw⟩ hm => ⟨rfl, ?_, rfl⟩).setF⟩
    subst hrw
    exact zb (fun z => hrow b rows rs e hg (by rw [← z]; exact hm))
end
end L2
namespace L2
open PySem PySem.Spec PyProof.Rows
noncomputable abbrev WS := List (Option W)
noncomputable abbrev WK := W → OM → Prop
noncomputable abbrev TEW := WS → OM → WK → Prop
noncomputable abbrev TTW := WS → OM → (Bool → OM → Prop) → Prop
noncomputable abbrev TAW := WS → OM → (List W → OM → Prop) → Prop
structure EndsW where
  nx : WS → OM → Prop
  rt : WK
  bk : WS → OM → Prop := fun _ _ => False
  ct : WS → OM → Prop := fun _ _ => False
noncomputable abbrev TSW := EndsW → WS → OM → Prop
noncomputable abbrev TGW := W → WS → OM → (WS → OM → Prop) → Prop
noncomputable abbrev TGsW := List PyData → WS → OM → (WS → OM → Prop) → Prop
noncomputable abbrev R2W := W → W → OM → WK → Prop
section
variable (K : PySem.W.Frag)
noncomputable def zl (t : TE) (T : TEW) : Prop := ∀ Γ O H ρ σ, Sim K Γ O H → relR K Γ ρ σ → ∀ (Q : VK) (R : WK), T ρ O R → (∀ Γ' O' H' w v, Le Γ Γ' → Sim K Γ' O' H' → relW K Γ' w v → R w O' → Q v H') → t σ H Q
noncomputable def ym (t : TT) (T : TTW) : Prop := ∀ Γ O H ρ σ, Sim K Γ O H → relR K Γ ρ σ → ∀ (Q : Bool → Hp → Prop) (R : Bool → OM → Prop), T ρ O R → (∀ Γ' O' H' b, Le Γ Γ' → Sim K Γ' O' H' → R b O' → Q b H') → t σ H Q
noncomputable def yn (t : TA) (T : TAW) : Prop := ∀ Γ O H ρ σ, Sim K Γ O H → relR K Γ ρ σ → ∀ (Q : List V → Hp → Prop) (R : List W → OM → Prop), T ρ O R → (∀ Γ' O' H' ws vs, Le Γ Γ' → Sim K Γ' O' H' → relWs K Γ' ws vs → R ws O' → Q vs H') → t σ H Q
structure EndsR (Γ : Gh) (D : Ends) (DW : EndsW) : Prop where
  nx : ∀ Γ' O' H' ρ' σ', Le Γ Γ' → Sim K Γ' O' H' → relR K Γ' ρ' σ' → DW.nx ρ' O' → D.nx σ' H'
  rt : ∀ Γ' O' H' w v, Le Γ Γ' → Sim K Γ' O' H' → relW K Γ' w v → DW.rt w O' → D.rt v H'
  bk : ∀ Γ' O' H' ρ' σ', Le Γ Γ' → Sim K Γ' O' H' → relR K Γ' ρ' σ' → DW.bk ρ' O' → D.bk σ' H'
  ct : ∀ Γ' O' H' ρ' σ', Le Γ Γ' → Sim K Γ' O' H' → relR K Γ' ρ' σ' → DW.ct ρ' O' → D.ct σ' H'
noncomputable def RefS (t : TS) (T : TSW) : Prop := ∀ Γ O H ρ σ D DW, Sim K Γ O H → relR K Γ ρ σ → T DW ρ O → EndsR K Γ D DW → t D σ H
noncomputable def RefG (t : TG) (T : TGW) : Prop := ∀ Γ O H ρ σ w v, Sim K Γ O H → relR K Γ ρ σ → relW K Γ w v → ∀ (Q : St → Hp → Prop) (R : WS → OM → Prop), T w ρ O R → (∀ Γ' O' H' ρ' σ', Le Γ Γ' → Sim K Γ' O' H' → relR K Γ' ρ' σ' → R ρ' O' → Q σ' H') → t v σ H Q
noncomputable def RefGs (t : TGs) (T : TGsW) : Prop := ∀ Γ O H ρ σ ds vs, Sim K Γ O H → relR K Γ ρ σ → Reps K Γ.Z ds vs → ∀ (Q : St → Hp → Prop) (R : WS → OM → Prop), T ds ρ O R → (∀ Γ' O' H' ρ' σ', Le Γ Γ' → Sim K Γ' O' H' → relR K Γ' ρ' σ' → R ρ' O' → Q σ' H') → t vs σ H Q
noncomputable def RefR (r : R2) (rw : R2W) : Prop := ∀ Γ O H x y v u, Sim K Γ O H → relW K Γ x v → relW K Γ y u → ∀ (Q : VK) (R : WK), rw x y O R → (∀ Γ' O' H' w v, Le Γ Γ' → Sim K Γ' O' H' → relW K Γ' w v → R w O' → Q v H') → r v u H Q
noncomputable def RefC (r : List V → Hp → VK → Prop) (rw : List W → OM → WK → Prop) : Prop := ∀ Γ O H xs vs, Sim K Γ O H → relWs K Γ xs vs → ∀ (Q : VK) (R : WK), rw xs O R → (∀ Γ' O' H' w v, Le Γ Γ' → Sim K Γ' O' H' → relW K Γ' w v → R w O' → Q v H') → r vs H Q
noncomputable def RefM (ty : String) (r : V → List V → Hp → VK → Prop) (rw : W → List W → OM → WK → Prop) : Prop := ∀ Γ O H x v xs vs, Sim K Γ O H → relW K Γ x v → relWs K Γ xs vs → ∀ (Q : VK) (R : WK), rw x xs O R → (∀ Γ' O' H' w v, Le Γ Γ' → Sim K Γ' O' H' → relW K Γ' w v → R w O' → Q v H') → r v vs H Q
end
section
variable {K : PySem.W.Frag}
theorem EndsR.mono {Γ Γ' : Gh} {D : Ends} {DW : EndsW} (h : EndsR K Γ D DW) (l : Le Γ Γ') : EndsR K Γ' D DW :=
  ⟨fun _ _ _ _ _ l2 => h.nx _ _ _ _ _ (l.trans l2), fun _ _ _ _ _ l2 => h.rt _ _ _ _ _ (l.trans l2), fun _ _ _ _ _ l2 => h.bk _ _ _ _ _ (l.trans l2), fun _ _ _ _ _ l2 => h.ct _ _ _ _ _ (l.trans l2)⟩
noncomputable def ofV : V → W
  | .int i => .d (.int i)
  | .bl b => .d (.bool b)
  | .str x => .d (.str x)
  | _ => .d .none
noncomputable def scV : V → Bool
  | .int _ => true
  | .bl _ => true
  | .str _ => true
  | .non => true
  | _ => false
theorem ur {Γ : Gh} {v : V} (h : scV v = true) : relW K Γ (ofV v) v := by
  cases v <;> first | rfl | simp [scV] at h
noncomputable def vOf : PyData → V
  | .int i => .int i
  | .bool b => .bl b
  | .str x => .str x
  | .none => .non
  | _ => .ty ""
noncomputable def scD : PyData → Bool
  | .int _ => true
  | .bool _ => true
  | .str _ => true
  | .none => true
  | _ => false
theorem kZ {Z : Hp} {x : PyData} {v : V} (h : Rep K Z x v) (s : scD x = true) : v = vOf x := by
  cases x <;> first | exact h | simp [scD] at s
theorem yW {Γ : Gh} {b : Bool} : relW K Γ (.d (.bool b)) (.bl b) := rfl
theorem vg {Γ : Gh} {b : Str} : relW K Γ (.d (.str b)) (.str b) := rfl
theorem jm {Γ : Gh} {b : Int} : relW K Γ (.d (.int b)) (.int b) := rfl
theorem ye {Γ : Gh} {a : Addr} : relW K Γ (.own a) (.ref a) := rfl
theorem Qa {Γ : Gh} {x : PyData} {v : V} (h : Rep K Γ.Z x v) : relW K Γ (.d x) v := h
theorem yP {Γ : Gh} : relW K Γ (.d .none) .non := rfl
noncomputable def Qz (i : Nat) : TEW := fun ρ O R => ∃ w, ρ[i]? = some (some w) ∧ R w O
noncomputable def wC (x : PyData) : TEW := fun _ O R => R (.d x) O
theorem XH {i : Nat} : zl K (jA i) (Qz i) := by
  rintro Γ O H ρ σ S r Q R ⟨w, e, h⟩ k
  obtain ⟨v, e', hv⟩ := r.get e
  exact ⟨v, e', k _ _ _ _ _ (Le.refl _) S hv h⟩
theorem jR {v : V} {x : PyData} (h : vOf x = v := by rfl) (hs : scD x = true := by rfl) : zl K (tC v) (wC x) := by
  rintro Γ O H ρ σ S r Q R hR k
  subst h
  refine k _ _ _ _ _ (Le.refl _) S ?_ hR
  cases x <;> first | rfl | simp [scD] at hs
theorem XI {i : Int} : zl K (tC (.int i)) (wC (.int i)) := jR
theorem XJ {i : Str} : zl K (tC (.str i)) (wC (.str i)) := jR
theorem VW {i : Bool} : zl K (tC (.bl i)) (wC (.bool i)) := jR
noncomputable def wOp (r : R2W) (Ta Tb : TEW) : TEW := fun ρ O R => Ta ρ O fun x O1 => Tb ρ O1 fun y O2 => r x y O2 R
theorem VX {r : R2} {rw : R2W} {ta tb : TE} {Ta Tb : TEW} (hr : RefR K r rw) (ha : zl K ta Ta) (hb : zl K tb Tb) : zl K (tOp r ta tb) (wOp rw Ta Tb) := by
  intro Γ O H ρ σ S r0 Q R h k
  refine ha Γ O H ρ σ S r0 _ _ h fun Γ1 O1 H1 x v l1 S1 rx h1 => ?_
  refine hb Γ1 O1 H1 ρ σ S1 (r0.mono l1) _ _ h1 fun Γ2 O2 H2 y u l2 S2 ry h2 => ?_
  exact hr Γ2 O2 H2 x y v u S2 (rx.mono l2) ry _ _ h2 fun Γ3 O3 H3 w z l3 S3 rz h3 => k Γ3 O3 H3 w z ((l1.trans l2).trans l3) S3 rz h3
noncomputable def wUn (r : W → OM → WK → Prop) (Ta : TEW) : TEW := fun ρ O R => Ta ρ O fun x O1 => r x O1 R
noncomputable def wI0 (g : Int → Int → V) : R2W := fun x y O R => ∃ i j, x = .d (.int i) ∧ y = .d (.int j) ∧ R (ofV (g i j)) O
noncomputable def wI (C : Int → Int → Prop) (g : Int → Int → V) : R2W := fun x y O R => ∃ i j, x = .d (.int i) ∧ y = .d (.int j) ∧ C i j ∧ R (ofV (g i j)) O
theorem QB {g : Int → Int → V} (hg : ∀ i j, scV (g i j) = true := by intro _ _; rfl) : RefR K (rI0 g) (wI0 g) := by
  rintro Γ O H x y v u S rx ry Q R ⟨i, j, rfl, rfl, h⟩ k
  exact ⟨i, j, rx, ry, k _ _ _ _ _ (Le.refl _) S (ur (hg i j)) h⟩
theorem r_I {C : Int → Int → Prop} {g : Int → Int → V} (hg : ∀ i j, scV (g i j) = true := by intro _ _; rfl) : RefR K (rI C g) (wI C g) := by
  rintro Γ O H x y v u S rx ry Q R ⟨i, j, rfl, rfl, c, h⟩ k
  exact ⟨i, j, rx, ry, c, k _ _ _ _ _ (Le.refl _) S (ur (hg i j)) h⟩
noncomputable def wEq : R2W := fun x y O R => ∃ a b, x = .d a ∧ y = .d b ∧ scD a = true ∧ scD b = true ∧ u7 (vOf a) (vOf b) = true ∧ R (.d (.bool (decide (vOf a = vOf b)))) O
theorem QC : RefR K rEq wEq := by
  rintro Γ O H x y v u S rx ry Q R ⟨a, b, rfl, rfl, sa, sb, sc, h⟩ k
  rw [kZ rx sa, kZ ry sb]
  exact ⟨sc, k _ _ _ _ _ (Le.refl _) S yW h⟩
noncomputable def jS : W → Bool
  | .d .none => true
  | _ => false
noncomputable def QD (b : Bool) : W → Bool
  | .d (.bool c) => decide (c = b)
  | _ => false
noncomputable def QE : R2W := fun x y O R => ∃ ws i w, y = .d (.int i) ∧ zj O x = some ws ∧ atI ws i = some w ∧ R w O
noncomputable def VY : R2W := fun x y O R => ∃ ds i e, y = .d (.int i) ∧ z0 x = some ds ∧ atI ds i = some e ∧ R (.d e) O
noncomputable def VZ : R2W := fun x y O R => ∃ z i c, x = .d (.str z) ∧ y = .d (.int i) ∧ z.length ≤ sizeLine ∧ atI z.cps.toList i = some c ∧ R (.d (.str ⟨#[c]⟩)) O
theorem vY {α β : Type} {F : α → β → Prop} {xs : List α} {ys : List β} {i : Int} {x : α} (r : Paired F xs ys) (e : atI xs i = some x) : ∃ y, atI ys i = some y ∧ F x y := by
  unfold atI at e ⊢
  rw [← Paired.length r]
  cases h : ixN xs.length i with
  | none => rw [h] at e; cases e
  | some j =>
    rw [h] at e
    exact Paired.getP r e
theorem Qb : RefR K (jI K) QE := by
  rintro Γ O H x y v u S rx ry Q R ⟨ws, i, w, rfl, e, h1, h⟩ k
  obtain ⟨a, vs, rfl, q1, q2⟩ := zO S rx e
  obtain ⟨z, h2, h3⟩ := vY q2 h1
  exact ⟨a, vs, i, z, rfl, ry, q1, h2, k _ _ _ _ _ (Le.refl _) S h3 h⟩
theorem Qc : RefR K (ZF K) VY := by
  rintro Γ O H x y v u S rx ry Q R ⟨ds, i, w, rfl, e, h1, h⟩ k
  obtain ⟨a, vs, rfl, q1, q2⟩ := vf S rx e
  have h1' : atI (ds.map W.d) i = some (.d w) := by
    unfold atI at h1 ⊢
    rw [List.length_map]
    cases hj : ixN ds.length i with
    | none => rw [hj] at h1; cases h1
    | some j =>
      rw [hj] at h1
      replace h1 : ds[j]? = some w := h1
      show (ds.map W.d)[j]? = some (.d w)
      rw [List.getElem?_map, h1]; rfl
  obtain ⟨z, h2, h3⟩ := vY q2 h1'
  exact ⟨a, vs, i, z, rfl, ry, q1, h2, k _ _ _ _ _ (Le.refl _) S h3 h⟩
theorem Qd : RefR K VI VZ := by
  rintro Γ O H x y v u S rx ry Q R ⟨z, i, c, rfl, rfl, hl, h1, h⟩ k
  exact ⟨z, i, c, rx, ry, hl, h1, k _ _ _ _ _ (Le.refl _) S vg h⟩
noncomputable def ZR (T U : TTW) : TTW := fun ρ O R => T ρ O fun c O1 => if c = true then U ρ O1 R else R false O1
noncomputable def wOr (T U : TTW) : TTW := fun ρ O R => T ρ O fun c O1 => if c = true then R true O1 else U ρ O1 R
noncomputable def ZS (T : TTW) : TTW := fun ρ O R => T ρ O fun c O1 => R (!c) O1
theorem XL {t u : TT} {T U : TTW} (h : ym K t T) (g : ym K u U) : ym K (Vp t u) (ZR T U) := by
  intro Γ O H ρ σ S r0 Q R hT k
  refine h Γ O H ρ σ S r0 _ _ hT fun Γ1 O1 H1 b l1 S1 h1 => ?_
  cases b with
  | true => rw [if_pos rfl] at h1 ⊢; exact g _ _ _ _ _ S1 (r0.mono l1) _ _ h1 fun Γ2 O2 H2 c l2 S2 h2 => k _ _ _ _ (l1.trans l2) S2 h2
  | false => rw [if_neg (by decide)] at h1 ⊢; exact k _ _ _ _ l1 S1 h1
theorem V0 {t u : TT} {T U : TTW} (h : ym K t T) (g : ym K u U) : ym K (tOr t u) (wOr T U) := by
  intro Γ O H ρ σ S r0 Q R hT k
  refine h Γ O H ρ σ S r0 _ _ hT fun Γ1 O1 H1 b l1 S1 h1 => ?_
  cases b with
  | false => rw [if_neg (by decide)] at h1 ⊢; exact g _ _ _ _ _ S1 (r0.mono l1) _ _ h1 fun Γ2 O2 H2 c l2 S2 h2 => k _ _ _ _ (l1.trans l2) S2 h2
  | true => rw [if_pos rfl] at h1 ⊢; exact k _ _ _ _ l1 S1 h1
theorem XM {t : TT} {T : TTW} (h : ym K t T) : ym K (Vq t) (ZS T) := by
  intro Γ O H ρ σ S r0 Q R hT k
  exact h Γ O H ρ σ S r0 _ _ hT fun Γ1 O1 H1 b l1 S1 h1 => k _ _ _ _ l1 S1 h1
noncomputable def YT (Ta Tb : TEW) : TEW := fun ρ O R => Ta ρ O fun x O1 => ∃ c, x = .d (.bool c) ∧ if c = true then Tb ρ O1 R else R (.d (.bool false)) O1
theorem ZT {ta tb : TE} {Ta Tb : TEW} (ha : zl K ta Ta) (hb : zl K tb Tb) : zl K (Yy ta tb) (YT Ta Tb) := by
  intro Γ O H ρ σ S r0 Q R hT k
  refine ha Γ O H ρ σ S r0 _ _ hT fun Γ1 O1 H1 x v l1 S1 rx h1 => ?_
  obtain ⟨c, rfl, h1⟩ := h1
  refine ⟨c, rx, ?_⟩
  cases c with
  | true => rw [if_pos rfl] at h1 ⊢; exact hb _ _ _ _ _ S1 (r0.mono l1) _ _ h1 fun Γ2 O2 H2 y u l2 S2 ry h2 => k _ _ _ _ _ (l1.trans l2) S2 ry h2
  | false => rw [if_neg (by decide)] at h1 ⊢; exact k _ _ _ _ _ l1 S1 yW h1
noncomputable def wIf (T : TTW) (Ta Tb : TEW) : TEW := fun ρ O R => T ρ O fun c O1 => if c = true then Ta ρ O1 R else Tb ρ O1 R
noncomputable def QF (O : OM) : W → Option Bool
  | .d .none => some false
  | .d (.bool b) => some b
  | .d (.int i) => some (i != 0)
  | .d (.str z) => some (z.length != 0)
  | .d (.list ds) => some (!ds.isEmpty)
  | .d (.tuple ds) => some (!ds.isEmpty)
  | .own a => match O a with
    | some (.lst ws) => some (!ws.isEmpty)
    | some (.dK kvs) => some (!kvs.isEmpty)
    | _ => none
  | _ => none
noncomputable def V1 : W → Prop
  | .d (.str z) => z.length ≤ sizeLine
  | _ => True
noncomputable def ZU : TAW := fun _ O R => R [] O
noncomputable def jT (Ta : TEW) (Tr : TAW) : TAW := fun ρ O R => Ta ρ O fun x O1 => Tr ρ O1 fun xs O2 => R (x :: xs) O2
theorem XN : yn K u8 ZU := fun Γ O H ρ σ S r0 Q R h k => k _ _ _ _ _ (Le.refl _) S .nil h
theorem ZV {ta : TE} {t : TA} {Ta : TEW} {T : TAW} (ha : zl K ta Ta) (hr : yn K t T) : yn K (xC ta t) (jT Ta T) := by
  intro Γ O H ρ σ S r0 Q R h k
  refine ha Γ O H ρ σ S r0 _ _ h fun Γ1 O1 H1 x v l1 S1 rx h1 => ?_
  exact hr Γ1 O1 H1 ρ σ S1 (r0.mono l1) _ _ h1 fun Γ2 O2 H2 ws vs l2 S2 rs h2 => k _ _ _ _ _ (l1.trans l2) S2 (.cons (rx.mono l2) rs) h2
noncomputable def V2 (T : TAW) : TEW := fun ρ O R => T ρ O fun ws O1 => ∃ ds, zP ws = some ds ∧ ds.length ≤ 1000 ∧ R (.d (.tuple ds)) O1
noncomputable def V3 (T : TAW) : TEW := fun ρ O R => T ρ O fun ws O1 => ∃ ds, zP ws = some ds ∧ ds.length ≤ 1000 ∧ R (.d (.list ds)) O1
theorem xu {n : Nat} (h : n ≤ 1000) : n ≤ sizeLine := Nat.le_of_lt (yG h)
theorem qt {Γ : Gh} {O : OM} {H : Hp} {ds : List PyData} {vs : List V} {p : Addr} (S : Sim K Γ O H) (hr : Reps K Γ.Z ds vs) (hp : H p = none) : ∃ Γ', Le Γ Γ' ∧ Sim K Γ' O (upd H p (.tup vs)) ∧ relW K Γ' (.d (.tuple ds)) (.ref p) := by
  obtain ⟨l, S'⟩ := S.newD hp (.tup vs)
  exact ⟨_, l, S', p, vs, rfl, SqT.of zh, Reps.same l.z _ _ hr⟩
theorem x0 {Γ : Gh} {O : OM} {H : Hp} {ds : List PyData} {vs : List V} {p : Addr} (S : Sim K Γ O H) (hr : Reps K Γ.Z ds vs) (hp : H p = none) : ∃ Γ', Le Γ Γ' ∧ Sim K Γ' O (upd H p (.lst vs)) ∧ relW K Γ' (.d (.list ds)) (.ref p) := by
  obtain ⟨l, S'⟩ := S.newD hp (.lst vs)
  exact ⟨_, l, S', p, vs, rfl, SqL.of zh, Reps.same l.z _ _ hr⟩
theorem xv {Γ : Gh} {O : OM} {H : Hp} {ws : List W} {vs : List V} {p : Addr} (S : Sim K Γ O H) (hr : relWs K Γ ws vs) (hp : H p = none) : O p = none ∧ Sim K Γ (updO O p (.lst ws)) (upd H p (.lst vs)) :=
  ⟨(S.free hp).2.1, S.newO hp (by intro _ h; cases h) ⟨vs, zh, hr⟩⟩
theorem XO {t : TA} {T : TAW} (h : yn K t T) : zl K (u9 t) (V2 T) := by
  intro Γ O H ρ σ S r0 Q R hT k
  refine h Γ O H ρ σ S r0 _ _ hT fun Γ1 O1 H1 ws vs l1 S1 rs h1 => ?_
  obtain ⟨ds, e, hl, h1⟩ := h1
  rw [zX e] at rs
  refine ⟨by rw [← Paired.length rs, List.length_map]; exact xu hl, fun p hp => ?_⟩
  obtain ⟨Γ', l, S', r'⟩ := qt S1 (zm rs) hp
  exact k _ _ _ _ _ (l1.trans l) S' r' h1
theorem XQ {t : TA} {T : TAW} (h : yn K t T) : zl K (jH t) (V3 T) := by
  intro Γ O H ρ σ S r0 Q R hT k
  refine h Γ O H ρ σ S r0 _ _ hT fun Γ1 O1 H1 ws vs l1 S1 rs h1 => ?_
  obtain ⟨ds, e, hl, h1⟩ := h1
  rw [zX e] at rs
  refine ⟨by rw [← Paired.length rs, List.length_map]; exact xu hl, fun p hp => ?_⟩
  obtain ⟨Γ', l, S', r'⟩ := x0 S1 (zm rs) hp
  exact k _ _ _ _ _ (l1.trans l) S' r' h1
end
end L2
namespace L2
open PySem PySem.Spec PyProof.Rows
noncomputable abbrev SpW := List W → OM → WK → Prop
noncomputable def zg (K : PySem.W.Frag) (s : SpW) : Sp := fun vs H Q _ => ∃ Γ O ws R, Sim K Γ O H ∧ relWs K Γ ws vs ∧ s ws O R ∧ ∀ Γ' O' H' w v, Le Γ Γ' → Sim K Γ' O' H' → relW K Γ' w v → R w O' → Q v H'
noncomputable def Clo (R : WK) : WK := fun w O => R w O ∨ ∃ a ds, w = .own a ∧ O a = some (.lst (ds.map .d)) ∧ R (.d (.list ds)) (del O a)
noncomputable def yH (N : List Str) (ws : List W) : WS := ws.map some ++ List.replicate (N.length - ws.length) none
section
variable {K : PySem.W.Frag}
theorem vZ {Γ : Gh} {N : List Str} {ws : List W} {vs : List V} (h : relWs K Γ ws vs) : relR K Γ (yH N ws) (L2.start N vs) := by
  unfold yH L2.start
  rw [Paired.length h]
  refine Paired.appP ?_ ?_
  · induction h with
    | nil => exact .nil
    | cons a b ih => exact .cons a ih
  · generalize N.length - vs.length = n
    induction n with
    | zero => exact .nil
    | succ n ih => exact .cons trivial ih
theorem vh {Γ : Gh} {O : OM} {H : Hp} {w : W} {v : V} {R : WK} {Q : VK} (S : Sim K Γ O H) (r : relW K Γ w v) (h : Clo R w O) (k : ∀ Γ' O' H' w v, Le Γ Γ' → Sim K Γ' O' H' → relW K Γ' w v → R w O' → Q v H') : Q v H := by
  rcases h with h | ⟨a, ds, rfl, e, h⟩
  · exact k _ _ _ _ _ (Le.refl _) S r h
  · obtain ⟨Γ', l, S', r'⟩ := S.freeze e
    cases (show v = .ref a from r)
    exact k _ _ _ _ _ l S' r' h
variable {P : Program} {w : World} {mg : Str → Option Value} {base : Heap}
theorem Fun.okW {x qual : Str} {st : Stmt} {f : Addr} {fd : FuncData} {N ps : List Str} {k : Nat} {s : SpW} (F : Fun K x qual st f fd) (S : FnScope N ps (defScope st)) (len : ∀ ws O R, s ws O R → ws.length = ps.length)
    (hbody : ∀ (cdv : Value) (A : Around) (outer : List Env) (sh : Shared) (H : Hp) (E : XK), Room k (A.deeper (envOfC qual (defScope st) sh.heap.objs.size f cdv)) →
      ∃ t T, PSs (yS CX0 P w K mg base N qual (defScope st) f cdv A outer sh H E).nox (defBody st) t ∧ RefS K t T ∧ ∀ ws O R, s ws O R → T { nx := fun _ O' => Clo R (.d .none) O', rt := Clo R } (yH N ws) O) : FnOk P w K mg base CX0 (k + 1) f fd ps (zg K s) := by
  refine F.ok S (fun vs H Q E h => ?_) (fun cdv A outer sh H vs Q E hr h => ?_)
  · obtain ⟨Γ, O, ws, R, S1, r, hs, _⟩ := h
    rw [← Paired.length r]
    exact len ws O R hs
  · obtain ⟨t, T, h1, h2, h3⟩ := hbody cdv A outer sh H E hr
    obtain ⟨Γ, O, ws, R, S1, r, hs, kk⟩ := h
    refine ⟨t, h1, h2 Γ O H _ _ _ _ S1 (vZ r) (h3 ws O R hs) ⟨fun Γ' O' H' ρ' σ' l S' r' h' => ?_, fun Γ' O' H' w v l S' r' h' => ?_, fun _ _ _ _ _ _ _ _ h => h.elim, fun _ _ _ _ _ _ _ _ h => h.elim⟩⟩
    · exact vh S' yP h' fun Γ2 O2 H2 w v l2 => kk _ _ _ _ _ (l.trans l2)
    · exact vh S' r' h' fun Γ2 O2 H2 w v l2 => kk _ _ _ _ _ (l.trans l2)
theorem Fun.okV {x qual : Str} {st : Stmt} {f : Addr} {fd : FuncData} {N ps : List Str} {k : Nat} {s : SpW} {t : TS} {T : TSW} (F : Fun K x qual st f fd) (S : FnScope N ps (defScope st)) (len : ∀ ws O R, s ws O R → ws.length = ps.length)
    (hP : ∀ (cdv : Value) (A : Around) (outer : List Env) (sh : Shared) (H : Hp) (E : XK), Room k (A.deeper (envOfC qual (defScope st) sh.heap.objs.size f cdv)) → PSs (yS CX0 P w K mg base N qual (defScope st) f cdv A outer sh H E).nox (defBody st) t)
    (hR : RefS K t T) (hb : ∀ ws O R, s ws O R → T { nx := fun _ O' => Clo R (.d .none) O', rt := Clo R } (yH N ws) O) : FnOk P w K mg base CX0 (k + 1) f fd ps (zg K s) :=
  F.okW S len fun cdv A outer sh H E hr => ⟨t, T, hP cdv A outer sh H E hr, hR, hb⟩
theorem FunD.okW {x qual : Str} {st : Stmt} {ds : List Value} {f : Addr} {fd : FuncData} {N ps : List Str} {k : Nat} {s : SpW} (F : FunD K x qual st ds f fd) (S : FnScope N ps (defScope st)) (len : ∀ ws O R, s ws O R → ws.length = ps.length)
    (hbody : ∀ (cdv : Value) (A : Around) (outer : List Env) (sh : Shared) (H : Hp) (E : XK), Room k (A.deeper (envOfC qual (defScope st) sh.heap.objs.size f cdv)) →
      ∃ t T, PSs (yS CX0 P w K mg base N qual (defScope st) f cdv A outer sh H E).nox (defBody st) t ∧ RefS K t T ∧ ∀ ws O R, s ws O R → T { nx := fun _ O' => Clo R (.d .none) O', rt := Clo R } (yH N ws) O) : FnOk P w K mg base CX0 (k + 1) f fd ps (zg K s) := by
  refine F.ok S (fun vs H Q E h => ?_) (fun cdv A outer sh H vs Q E hr h => ?_)
  · obtain ⟨Γ, O, ws, R, S1, r, hs, _⟩ := h
    rw [← Paired.length r]
    exact len ws O R hs
  · obtain ⟨t, T, h1, h2, h3⟩ := hbody cdv A outer sh H E hr
    obtain ⟨Γ, O, ws, R, S1, r, hs, kk⟩ := h
    refine ⟨t, h1, h2 Γ O H _ _ _ _ S1 (vZ r) (h3 ws O R hs) ⟨fun Γ' O' H' ρ' σ' l S' r' h' => ?_, fun Γ' O' H' w v l S' r' h' => ?_, fun _ _ _ _ _ _ _ _ h => h.elim, fun _ _ _ _ _ _ _ _ h => h.elim⟩⟩
    · exact vh S' yP h' fun Γ2 O2 H2 w v l2 => kk _ _ _ _ _ (l.trans l2)
    · exact vh S' r' h' fun Γ2 O2 H2 w v l2 => kk _ _ _ _ _ (l.trans l2)
theorem FunD.okV {x qual : Str} {st : Stmt} {ds : List Value} {f : Addr} {fd : FuncData} {N ps : List Str} {k : Nat} {s : SpW} {t : TS} {T : TSW} (F : FunD K x qual st ds f fd) (S : FnScope N ps (defScope st)) (len : ∀ ws O R, s ws O R → ws.length = ps.length)
    (hP : ∀ (cdv : Value) (A : Around) (outer : List Env) (sh : Shared) (H : Hp) (E : XK), Room k (A.deeper (envOfC qual (defScope st) sh.heap.objs.size f cdv)) → PSs (yS CX0 P w K mg base N qual (defScope st) f cdv A outer sh H E).nox (defBody st) t)
    (hR : RefS K t T) (hb : ∀ ws O R, s ws O R → T { nx := fun _ O' => Clo R (.d .none) O', rt := Clo R } (yH N ws) O) : FnOk P w K mg base CX0 (k + 1) f fd ps (zg K s) :=
  F.okW S len fun cdv A outer sh H E hr => ⟨t, T, hP cdv A outer sh H E hr, hR, hb⟩
end
section
variable {K : PySem.W.Frag}
theorem qu {Γ : Gh} : ∀ {vs : List V}, vs.all scV = true → relWs K Γ (vs.map ofV) vs
  | [], _ => .nil
  | v :: vs, h => by
    simp at h
    exact .cons (ur h.1) (qu (by simpa using h.2))
noncomputable def v0 (s : SpW) (dvs : List V) (T : TAW) : TEW := fun ρ O R => T ρ O fun ws O1 => s (ws ++ dvs.map ofV) O1 R
theorem qv {s : SpW} {dvs : List V} {t : TA} {T : TAW} (h : yn K t T) (hd : dvs.all scV = true := by rfl) : zl K (vQ (zg K s) dvs E0 t) (v0 s dvs T) := by
  intro Γ O H ρ σ S r0 Q R hT k
  refine h Γ O H ρ σ S r0 _ _ hT fun Γ1 O1 H1 ws vs l1 S1 rs h1 => ?_
  exact ⟨Γ1, O1, _, R, S1, Paired.appP rs (qu hd), h1, fun Γ2 O2 H2 w v l2 S2 r2 h2 => k _ _ _ _ _ (l1.trans l2) S2 r2 h2⟩
noncomputable def wCB (r : List W → OM → WK → Prop) (T : TAW) : TEW := fun ρ O R => T ρ O fun ws O1 => r ws O1 R
theorem V4 {r : List V → Hp → VK → Prop} {rw : List W → OM → WK → Prop} {t : TA} {T : TAW} (hr : RefC K r rw) (h : yn K t T) : zl K (tCB r t) (wCB rw T) := by
  intro Γ O H ρ σ S r0 Q R hT k
  refine h Γ O H ρ σ S r0 _ _ hT fun Γ1 O1 H1 ws vs l1 S1 rs h1 => ?_
  exact hr _ _ _ _ _ S1 rs _ _ h1 fun Γ2 O2 H2 w v l2 S2 r2 h2 => k _ _ _ _ _ (l1.trans l2) S2 r2 h2
noncomputable def seqD (O : OM) (w : W) : Option (List PyData) := match z0 w with
  | some ds => some ds
  | none => (zj O w).bind zP
theorem jn {Γ : Gh} {O : OM} {H : Hp} {w : W} {v : V} {ds : List PyData} (S : Sim K Γ O H) (r : relW K Γ w v) (e : seqD O w = some ds) : ∃ a vs, v = .ref a ∧ (SqL K H a vs ∨ SqT K H a vs) ∧ Reps K Γ.Z ds vs := by
  unfold seqD at e
  split at e
  · rename_i es h
    cases e
    obtain ⟨a, vs, e1, h1, h2⟩ := vf S r h
    exact ⟨a, vs, e1, .inr h1, zm h2⟩
  · cases h : zj O w with
    | none => rw [h] at e; cases e
    | some ws =>
      rw [h] at e
      obtain ⟨a, vs, e1, h1, h2⟩ := zO S r h
      rw [zX (show zP ws = some ds from e)] at h2
      exact ⟨a, vs, e1, .inl h1, zm h2⟩
noncomputable def lenW (O : OM) (w : W) : Option Nat := match z0 w with
  | some ds => some ds.length
  | none => (zj O w).map (·.length)
noncomputable def ZW : List W → OM → WK → Prop := fun xs O R => ∃ w n, xs = [w] ∧ lenW O w = some n ∧ R (.d (.int n)) O
theorem Qe : RefC K (fun xs H Q => ∃ p ys, xs = [.ref p] ∧ (SqL K H p ys ∨ SqT K H p ys) ∧ Q (.int ys.length) H) ZW := by
  rintro Γ O H xs vs S rs Q R ⟨w, n, rfl, e, h⟩ k
  cases rs with
  | cons rx t =>
    cases t
    unfold lenW at e
    split at e
    · rename_i ds hT
      cases e
      obtain ⟨a, vs, e1, h1, h2⟩ := vf S rx hT
      subst e1
      refine ⟨a, vs, rfl, .inr h1, k _ _ _ _ _ (Le.refl _) S ?_ h⟩
      rw [← Paired.length h2, List.length_map]; rfl
    · cases hL : zj O w with
      | none => rw [hL] at e; cases e
      | some ws =>
        rw [hL] at e
        cases e
        obtain ⟨a, vs, e1, h1, h2⟩ := zO S rx hL
        subst e1
        refine ⟨a, vs, rfl, .inl h1, k _ _ _ _ _ (Le.refl _) S ?_ h⟩
        rw [← Paired.length h2]; rfl
noncomputable def YU : List W → OM → WK → Prop := fun xs O R => ∃ z, xs = [.d (.str z)] ∧ z.length ≤ sizeLine ∧ R (.d (.int z.length)) O
theorem V5 : RefC K (fun xs H Q => ∃ z, xs = [.str z] ∧ z.length ≤ sizeLine ∧ Q (.int z.length) H) YU := by
  rintro Γ O H xs vs S rs Q R ⟨z, rfl, e, h⟩ k
  cases rs with
  | cons rx t =>
    cases t
    exact ⟨z, by rw [show _ = V.str z from rx], e, k _ _ _ _ _ (Le.refl _) S jm h⟩
noncomputable def qw : List W → OM → WK → Prop := fun xs O R => ∃ w ds, xs = [w] ∧ seqD O w = some ds ∧ R (.d (.list ds)) O
theorem XR : RefC K (fun xs H Q => ∃ p ys, xs = [.ref p] ∧ (SqL K H p ys ∨ SqT K H p ys) ∧ ∀ l, H l = none → Q (.ref l) (upd H l (.lst ys))) qw := by
  rintro Γ O H xs vs S rs Q R ⟨w, ds, rfl, e, h⟩ k
  cases rs with
  | cons rx t =>
    cases t
    obtain ⟨a, vs, e1, h1, h2⟩ := jn S rx e
    subst e1
    refine ⟨a, vs, rfl, h1, fun l hl => ?_⟩
    obtain ⟨Γ', le, S', r'⟩ := x0 S h2 hl
    exact k _ _ _ _ _ le S' r' h
noncomputable def qy : List W → OM → WK → Prop := fun xs O R => ∃ w ds, xs = [w] ∧ seqD O w = some ds ∧ ∀ p, O p = none → R (.own p) (updO O p (.lst (ds.map .d)))
theorem XS : RefC K (fun xs H Q => ∃ p ys, xs = [.ref p] ∧ (SqL K H p ys ∨ SqT K H p ys) ∧ ∀ l, H l = none → Q (.ref l) (upd H l (.lst ys))) qy := by
  rintro Γ O H xs vs S rs Q R ⟨w, ds, rfl, e, h⟩ k
  cases rs with
  | cons rx t =>
    cases t
    obtain ⟨a, vs, e1, h1, h2⟩ := jn S rx e
    subst e1
    refine ⟨a, vs, rfl, h1, fun l hl => ?_⟩
    obtain ⟨hO, S'⟩ := xv S (zD h2) hl
    exact k _ _ _ _ _ (Le.refl _) S' ye (h l hO)
noncomputable def jU : TSW := fun D ρ O => D.nx ρ O
noncomputable def yK (T U : TSW) : TSW := fun D ρ O => T { D with nx := U D } ρ O
noncomputable def jV (T : TEW) : TSW := fun D ρ O => T ρ O fun _ O1 => D.nx ρ O1
noncomputable def ZX (T : TEW) : TSW := fun D ρ O => T ρ O D.rt
noncomputable def Qf : TSW := fun D _ O => D.rt (.d .none) O
noncomputable def ZY (c : TTW) (T U : TSW) : TSW := fun D ρ O => c ρ O fun b O1 => if b = true then T D ρ O1 else U D ρ O1
theorem ZZ : RefS K Yz jU := fun Γ O H ρ σ D DW S r h e => e.nx _ _ _ _ _ (Le.refl _) S r h
theorem XT {t u : TS} {T U : TSW} (h : RefS K t T) (g : RefS K u U) : RefS K (Vv t u) (yK T U) := fun Γ O H ρ σ D DW S r hT e =>
  h Γ O H ρ σ { D with nx := u D } { DW with nx := U DW } S r hT ⟨fun Γ' O' H' ρ' σ' l S' r' h' => g _ _ _ _ _ _ _ S' r' h' (e.mono l), e.rt, e.bk, e.ct⟩
theorem Z0 {t : TE} {T : TEW} (h : zl K t T) : RefS K (YA t) (jV T) := fun Γ O H ρ σ D DW S r hT e =>
  h _ _ _ _ _ S r _ _ hT fun Γ1 O1 H1 w v l S1 r1 h1 => e.nx _ _ _ _ _ l S1 (r.mono l) h1
theorem XU {t : TE} {T : TEW} (h : zl K t T) : RefS K (Vw t) (ZX T) := fun Γ O H ρ σ D DW S r hT e =>
  h _ _ _ _ _ S r _ _ hT fun Γ1 O1 H1 w v l S1 r1 h1 => e.rt _ _ _ _ _ l S1 r1 h1
theorem XV {c : TT} {C : TTW} {t u : TS} {T U : TSW} (hc : ym K c C) (h : RefS K t T) (g : RefS K u U) : RefS K (Vx c t u) (ZY C T U) := fun Γ O H ρ σ D DW S r hT e => by
  refine hc _ _ _ _ _ S r _ _ hT fun Γ1 O1 H1 b l S1 h1 => ?_
  cases b with
  | true => rw [if_pos rfl] at h1 ⊢; exact h _ _ _ _ _ _ _ S1 (r.mono l) h1 (e.mono l)
  | false => rw [if_neg (by decide)] at h1 ⊢; exact g _ _ _ _ _ _ _ S1 (r.mono l) h1 (e.mono l)
noncomputable def Z1 (T : TEW) (G : TGW) : TSW := fun D ρ O => T ρ O fun x O1 => G x ρ O1 D.nx
theorem XW {t : TE} {T : TEW} {g : TG} {G : TGW} (h : zl K t T) (hg : RefG K g G) : RefS K (u5 t g) (Z1 T G) := fun Γ O H ρ σ D DW S r hT e =>
  h _ _ _ _ _ S r _ _ hT fun Γ1 O1 H1 w v l S1 r1 h1 => hg _ _ _ _ _ _ _ S1 (r.mono l) r1 _ _ h1 fun Γ2 O2 H2 ρ2 σ2 l2 => e.nx _ _ _ _ _ (l.trans l2)
noncomputable def vj (i : Nat) : TGW := fun w ρ O R => R (ρ.set i (some w)) O
theorem Z2 {i : Nat} : RefG K (vd i) (vj i) := fun Γ O H ρ σ w v S r rw Q R h k => k _ _ _ _ _ (Le.refl _) S (Paired.setP r (show ve K Γ (some w) (some v) from rw)) h
noncomputable def jW : TGsW := fun ds ρ O R => ds = [] ∧ R ρ O
noncomputable def v1 (G : TGW) (U : TGsW) : TGsW := fun ds ρ O R => ∃ e es, ds = e :: es ∧ G (.d e) ρ O fun ρ' O' => U es ρ' O' R
theorem Z3 : RefGs K Vz jW := by
  rintro Γ O H ρ σ ds vs S r rs Q R ⟨rfl, h⟩ k
  exact ⟨rs, k _ _ _ _ _ (Le.refl _) S r h⟩
theorem k6 {t : TG} {u : TGs} {G : TGW} {U : TGsW} (h : RefG K t G) (g : RefGs K u U) : RefGs K (YB t u) (v1 G U) := by
  rintro Γ O H ρ σ ds vs S r rs Q R ⟨e, es, rfl, hh⟩ k
  obtain ⟨x, xs, rfl, h1, h2⟩ := rs
  refine ⟨x, xs, rfl, h _ _ _ _ _ _ _ S r (Qa h1) _ _ hh fun Γ1 O1 H1 ρ1 σ1 l1 S1 r1 q1 => ?_⟩
  exact g _ _ _ _ _ _ _ S1 r1 (Reps.same l1.z _ _ h2) _ _ q1 fun Γ2 O2 H2 ρ2 σ2 l2 => k _ _ _ _ _ (l1.trans l2)
noncomputable def jX (n : Nat) (U : TGsW) : TGW := fun w ρ O R => ∃ ds, z0 w = some ds ∧ ds.length = n ∧ U ds ρ O R
theorem Z4 {n : Nat} {t : TGs} {U : TGsW} (h : RefGs K t U) : RefG K (ZB K n t) (jX n U) := by
  rintro Γ O H ρ σ w v S r rw Q R ⟨ds, e, hl, hh⟩ k
  obtain ⟨a, vs, e1, h1, h2⟩ := vf S rw e
  refine ⟨a, vs, e1, h1, by rw [← Paired.length h2, List.length_map]; exact hl, h _ _ _ _ _ _ _ S r (zm h2) _ _ hh k⟩
noncomputable def vL (O : OM) (o : W) (k : Int) (w : W) : Option OM := match o with
  | .own a => match O a with
    | some (.lst ws) => (ixN ws.length k).map fun j => updO O a (.lst (ws.set j w))
    | _ => none
  | .row a r => match O a, w with
    | some (.grid rows), .d x => match rows[r]? with
      | some ds => (ixN ds.length k).map fun j => updO O a (.grid (rows.set r (ds.set j x)))
      | none => none
    | _, _ => none
  | _ => none
noncomputable def V6 (To Ti : TEW) : TGW := fun w ρ O R => To ρ O fun o O1 => Ti ρ O1 fun i O2 => ∃ k O3, i = .d (.int k) ∧ vL O2 o k w = some O3 ∧ R ρ O3
theorem Z5 {to ti : TE} {To Ti : TEW} (ho : zl K to To) (hi : zl K ti Ti) : RefG K (VB to ti YH) (V6 To Ti) := by
  rintro Γ O H ρ σ w v S r rw Q R h k
  refine ho _ _ _ _ _ S r _ _ h fun Γ1 O1 H1 o vo l1 S1 ro h1 => ?_
  refine hi _ _ _ _ _ S1 (r.mono l1) _ _ h1 fun Γ2 O2 H2 i vi l2 S2 ri h2 => ?_
  obtain ⟨n, O3, rfl, e, h2⟩ := h2
  have ro2 := ro.mono l2
  have rw2 := rw.mono (l1.trans l2)
  cases (show vi = .int n from ri)
  cases o with
  | d x => cases e
  | own a =>
    cases (show vo = .ref a from ro2)
    simp only [vL] at e
    split at e
    · rename_i ws hO
      cases hj : ixN ws.length n with
      | none => rw [hj] at e; cases e
      | some j =>
        rw [hj] at e
        cases e
        obtain ⟨_, us, q1, q2⟩ := S2.o _ _ hO
        refine ⟨a, us, n, j, rfl, rfl, q1, by rw [← Paired.length q2]; exact hj, ?_⟩
        exact k _ _ _ _ _ (l1.trans l2) (S2.put (oo := .lst _) hO (by intro _ h; cases h) (by intro _ h; cases h) ⟨_, zh, Paired.setP q2 rw2⟩) (r.mono (l1.trans l2)) h2
    · cases e
  | row a i =>
    obtain ⟨rs, r0, hg, hr, rfl⟩ := ro2
    simp only [vL] at e
    split at e
    · rename_i rows x hO
      cases hd : rows[i]? with
      | none => rw [hd] at e; cases e
      | some ds =>
        rw [hd] at e
        simp only at e
        cases hj : ixN ds.length n with
        | none => rw [hj] at e; cases e
        | some j =>
          rw [hj] at e
          cases e
          obtain ⟨_, rs', hg', _, hl, _, hrow⟩ := S2.o _ _ hO
          rw [hg] at hg'
          cases hg'
          obtain ⟨_, _, us, q1, q2⟩ := hrow i r0 ds hr hd
          refine ⟨r0, us, n, j, rfl, rfl, q1, by rw [← Reps.length q2]; exact hj, ?_⟩
          exact k _ _ _ _ _ (l1.trans l2) (S2.cell hO hg hr hd q1 rw2) (r.mono (l1.trans l2)) h2
    · cases e
end
end L2
namespace L2
open PySem PySem.Spec PyProof.Rows
section
variable {K : PySem.W.Frag}
noncomputable def V7 (K : PySem.W.Frag) (Γ : Gh) (J : It) (ws : List W) (keep : OM → Prop) : Prop := ∀ i Γ' O' H', Same Γ.Z Γ'.Z → (∀ a rs, Γ.G a = some rs → ∃ more, Γ'.G a = some (rs ++ more)) → Sim K Γ' O' H' → keep O' →
  (∀ w, ws[i]? = some w → J.go i H' ∧ ∀ x H2, J.yld i H' x H2 → ∃ Γ2, Le Γ' Γ2 ∧ Sim K Γ2 O' H2 ∧ relW K Γ2 w x) ∧ (i = ws.length → J.stop i H')
noncomputable abbrev TIW := WS → OM → (List W → (OM → Prop) → OM → Prop) → Prop
noncomputable def xG (K : PySem.W.Frag) (t : TI) (T : TIW) : Prop := ∀ Γ O H ρ σ, Sim K Γ O H → relR K Γ ρ σ → ∀ (Q : It → Hp → Prop) (R : List W → (OM → Prop) → OM → Prop), T ρ O R → (∀ Γ' O' H' J ws keep, Le Γ Γ' → Sim K Γ' O' H' → V7 K Γ' J ws keep → R ws keep O' → Q J H') → t σ H Q
theorem relW.up {Γ Γ' : Gh} (hz : Same Γ.Z Γ'.Z) (hg : ∀ a rs, Γ.G a = some rs → ∃ more, Γ'.G a = some (rs ++ more)) {w : W} {v : V} (h : relW K Γ w v) : relW K Γ' w v := by
  have h1 : relW K ⟨Γ'.Z, Γ'.G, Γ.F⟩ w v := relW.mono (Γ := Γ) (Γ' := ⟨Γ'.Z, Γ'.G, Γ.F⟩) ⟨rfl, hz, hg⟩ h
  cases w <;> exact h1
noncomputable def YV (T : TEW) : TIW := fun ρ O R => T ρ O fun w O1 => ∃ ws, zj O1 w = some ws ∧ R ws (fun O' => zj O' w = some ws) O1
theorem k7 {t : TE} {T : TEW} (h : zl K t T) : xG K (jE K t) (YV T) := by
  intro Γ O H ρ σ S r Q R hT k
  refine h _ _ _ _ _ S r _ _ hT fun Γ1 O1 H1 w v l1 S1 r1 h1 => ?_
  obtain ⟨ws, e, h1⟩ := h1
  obtain ⟨a, vs, rfl, q1, q2⟩ := zO S1 r1 e
  refine ⟨a, rfl, ⟨vs, q1⟩, k _ _ _ _ _ _ l1 S1 (fun i Γ' O' H' hz hg S' e' => ?_) h1⟩
  obtain ⟨a', vs', ea, q1', q2'⟩ := zO S' (r1.up hz hg) e'
  cases ea
  refine ⟨fun w' hw => ?_, fun hi => ⟨vs', q1', by rw [← Paired.length q2', hi]; exact Nat.le_refl _⟩⟩
  obtain ⟨x, hx, rx⟩ := Paired.getP q2' hw
  refine ⟨⟨vs', x, q1', hx⟩, fun y H2 ⟨e2, hy⟩ => ?_⟩
  subst e2
  have := hy vs' q1'
  rw [hx] at this
  cases this
  exact ⟨Γ', Le.refl _, S', rx⟩
theorem V8 {Γ : Gh} {n : Nat} {f : Nat → Int} {J : It} (hgo : ∀ i H, i < n → J.go i H) (hy : ∀ i H x H', J.yld i H x H' → H' = H ∧ x = .int (f i)) (hs : ∀ i H, n ≤ i → J.stop i H) : V7 K Γ J ((List.range n).map fun i => .d (.int (f i))) fun _ => True := by
  intro i Γ' O' H' hz hg S' _
  refine ⟨fun w hw => ?_, fun hi => hs i _ (by rw [hi]; simp)⟩
  rw [List.getElem?_map] at hw
  cases hr : (List.range n)[i]? with
  | none => rw [hr] at hw; cases hw
  | some j =>
    rw [hr] at hw
    cases hw
    obtain ⟨hi, hj⟩ := List.getElem?_eq_some_iff.mp hr
    simp at hi hj
    subst hj
    refine ⟨hgo i _ hi, fun x H2 y => ?_⟩
    obtain ⟨rfl, rfl⟩ := hy i _ x H2 y
    exact ⟨Γ', Le.refl _, S', jm⟩
noncomputable def YW (T : TAW) : TIW := fun ρ O R => T ρ O fun ws O1 => ∃ j : Int, ws = [.d (.int j)] ∧ -(2 ^ 62) ≤ j ∧ j < 2 ^ 62 ∧ R ((List.range j.toNat).map fun (i : Nat) => .d (.int i)) (fun _ => True) O1
theorem k8 {t : TA} {T : TAW} (h : yn K t T) : xG K (YC t) (YW T) := by
  intro Γ O H ρ σ S r Q R hT k
  refine h _ _ _ _ _ S r _ _ hT fun Γ1 O1 H1 ws vs l1 S1 r1 h1 => ?_
  obtain ⟨j, rfl, b1, b2, h1⟩ := h1
  cases r1 with
  | cons rx t =>
    cases t
    refine ⟨j, by rw [show _ = V.int j from rx], b1, b2, k _ _ _ _ _ _ l1 S1 (V8 (f := fun i => (i : Int)) (fun i H hi => hi) (fun i H x H' ⟨e1, e2⟩ => ⟨e1, by rw [e2, Int.zero_add]⟩) fun i H hi => hi) h1⟩
noncomputable def z7 (ws : List W) (keep : OM → Prop) (G : TGW) (TB : TSW) (D : EndsW) (ρ : WS) (O : OM) : Prop := ∃ Pv : Nat → WS → OM → Prop, Pv 0 ρ O ∧ (∀ i ρ O, Pv i ρ O → keep O) ∧
  (∀ i w ρ O, ws[i]? = some w → Pv i ρ O → G w ρ O fun ρ' O' => TB { D with nx := Pv (i + 1), ct := Pv (i + 1), bk := D.nx } ρ' O') ∧ ∀ ρ O, Pv ws.length ρ O → D.nx ρ O
noncomputable def V9 (Wi : TIW) (G : TGW) (TB : TSW) : TSW := fun D ρ O => Wi ρ O fun ws keep O1 => z7 ws keep G TB D ρ O1
theorem XX {wi : TI} {Wi : TIW} {g : TG} {G : TGW} {tb : TS} {TB : TSW} (hi : xG K wi Wi) (hg : RefG K g G) (hb : RefS K tb TB) : RefS K (VC wi g tb) (V9 Wi G TB) := by
  intro Γ O H ρ σ D DW S r hT e
  refine hi _ _ _ _ _ S r _ _ hT fun Γ1 O1 H1 J ws keep l1 S1 ok h1 => ?_
  obtain ⟨Pv, p0, pk, ps, pd⟩ := h1
  refine ⟨fun i m σ' H' => i ≤ ws.length ∧ m = ws.length - i ∧ ∃ Γ' O' ρ', Le Γ1 Γ' ∧ Sim K Γ' O' H' ∧ relR K Γ' ρ' σ' ∧ Pv i ρ' O', ⟨_, Nat.zero_le _, rfl, Γ1, O1, ρ, Le.refl _, S1, r.mono l1, p0⟩, ?_⟩
  rintro i m σ' H' ⟨hi, rfl, Γ', O', ρ', l', S', r', p'⟩
  obtain ⟨ok1, ok2⟩ := ok i Γ' O' H' l'.z l'.g S' (pk _ _ _ p')
  by_cases hlt : i < ws.length
  · obtain ⟨go, y⟩ := ok1 _ (List.getElem?_eq_getElem hlt)
    refine .inr ⟨go, fun σ2 H2 => ∃ Γ2 O2 ρ2, Le Γ1 Γ2 ∧ Sim K Γ2 O2 H2 ∧ relR K Γ2 ρ2 σ2 ∧ Pv (i + 1) ρ2 O2, fun σ2 H2 ⟨Γ2, O2, ρ2, l2, S2, r2, p2⟩ => ⟨ws.length - (i + 1), by omega, hlt, rfl, Γ2, O2, ρ2, l2, S2, r2, p2⟩, fun x H2 hy => ?_⟩
    obtain ⟨Γ2, l2, S2, rx⟩ := y x H2 hy
    refine hg _ _ _ _ _ _ _ S2 (r'.mono l2) rx _ _ (ps i _ ρ' O' (List.getElem?_eq_getElem hlt) p') fun Γ3 O3 H3 ρ3 σ3 l3 S3 r3 h3 => ?_
    have l13 := (l'.trans l2).trans l3
    refine hb _ _ _ _ _ _ _ S3 r3 h3 ⟨fun Γ4 O4 H4 ρ4 σ4 l4 S4 r4 h4 => ⟨Γ4, O4, ρ4, l13.trans l4, S4, r4, h4⟩, fun Γ4 O4 H4 w v l4 => e.rt _ _ _ _ _ ((l1.trans l13).trans l4), fun Γ4 O4 H4 ρ4 σ4 l4 => e.nx _ _ _ _ _ ((l1.trans l13).trans l4), fun Γ4 O4 H4 ρ4 σ4 l4 S4 r4 h4 => ⟨Γ4, O4, ρ4, l13.trans l4, S4, r4, h4⟩⟩
  · have hi2 : i = ws.length := by omega
    refine .inl ⟨ok2 hi2, e.nx _ _ _ _ _ (l1.trans l') S' r' (pd _ _ ?_)⟩
    rw [← hi2]; exact p'
noncomputable def zz (js : List Nat) (ρ : WS) : WS := js.map fun j => (ρ[j]?).join
theorem y8 {Γ : Gh} {ρ : WS} {σ : St} (r : relR K Γ ρ σ) (n : Nat) (js : List Nat) : relR K Γ (List.replicate n none ++ zz js ρ) (xD n js σ) := by
  refine Paired.appP ?_ ?_
  · induction n with
    | zero => exact .nil
    | succ n ih => exact .cons trivial ih
  · unfold zz
    induction js with
    | nil => exact .nil
    | cons j js ih =>
      refine .cons ?_ ih
      show ve K Γ (ρ[j]?.join) (σ[j]?.join)
      cases h : ρ[j]? with
      | none => exact trivial
      | some o =>
        cases o with
        | none => exact trivial
        | some w =>
          obtain ⟨v, hv, rv⟩ := r.get h
          rw [hv]
          exact rv
noncomputable def v2 (G : TGW) (T : TTW) (E : TEW) (n : Nat) (zE : WS) (w : W) (ρ : WS) (O : OM) (k : Option W → OM → Prop) : Prop :=
  G w ρ O fun ρ1 O1 => (ρ1.length = n + zE.length ∧ ρ1.drop n = zE) ∧ T ρ1 O1 fun ok O2 => if ok = true then E ρ1 O2 fun y O3 => k (some y) O3 else k none O2
noncomputable def wLc (Wi : TIW) (n : Nat) (js : List Nat) (G : TGW) (T : TTW) (E : TEW) : TEW := fun ρ O R => Wi ρ O fun ws keep O1 => keep O1 ∧ ws.length ≤ 1000 ∧ ∃ F : W → Option PyData,
  (∀ w ∈ ws, ∀ us : WS, us.length = n → v2 G T E n (zz js ρ) w (us ++ zz js ρ) O1 fun y O2 => O2 = O1 ∧ y = (F w).map .d) ∧ R (.d (.list (ws.filterMap F))) O1
theorem xH {n : Nat} {zE ρ : WS} (h1 : ρ.length = n + zE.length) (h2 : ρ.drop n = zE) : ∃ us : WS, us.length = n ∧ ρ = us ++ zE := ⟨ρ.take n, by rw [List.length_take]; omega, by rw [← h2, List.take_append_drop]⟩
theorem Ua {wi : TI} {Wi : TIW} {n : Nat} {js : List Nat} {g : TG} {G : TGW} {tt : TT} {T : TTW} {te : TE} {E : TEW} (hi : xG K wi Wi) (hg : RefG K g G) (ht : ym K tt T) (he : zl K te E) : zl K (tLc wi n js g tt te) (wLc Wi n js G T E) := by
  intro Γ O H ρ σ S r Q R hT k
  refine hi _ _ _ _ _ S r _ _ hT fun Γ1 O1 H1 J ws keep l1 S1 ok h1 => ?_
  obtain ⟨hk, hlen, F, hF, hR⟩ := h1
  intro D hD
  have hFD : Γ1.F D = none := S1.f.free hD
  have r1 := y8 (r.mono l1) n js
  refine ⟨fun i m σ' H' => i ≤ ws.length ∧ m = ws.length - i ∧ ∃ Γ' ρ' vs, Same Γ1.Z Γ'.Z ∧ (∀ a rs, Γ1.G a = some rs → ∃ more, Γ'.G a = some (rs ++ more)) ∧ Γ'.F = upd Γ1.F D (.lst vs) ∧ Sim K Γ' O1 H' ∧ relR K Γ' ρ' σ' ∧
    ρ'.length = n + (zz js ρ).length ∧ ρ'.drop n = zz js ρ ∧ Reps K Γ'.Z ((ws.take i).filterMap F) vs, ⟨_, Nat.zero_le _, rfl, _, _, [], Same.refl _, fun a rs h => ⟨[], by rw [List.append_nil]; exact h⟩, rfl, S1.frameNew hD (.lst []), r1.setF, by simp, by simp, rfl⟩, ?_⟩
  rintro i m σ' H' ⟨hi, rfl, Γ', ρ', vs, z', g', f', S', r', n1, n2, rp⟩
  obtain ⟨ok1, ok2⟩ := ok i Γ' O1 H' z' g' S' hk
  have hvl : vs.length ≤ i := by
    rw [← Reps.length rp]
    exact Nat.le_trans (List.length_filterMap_le _ _) (by rw [List.length_take]; omega)
  by_cases hlt : i < ws.length
  · obtain ⟨go, y⟩ := ok1 _ (List.getElem?_eq_getElem hlt)
    refine .inr ⟨go, fun σ2 H2 => ∃ Γ2 ρ2 vs2, Same Γ1.Z Γ2.Z ∧ (∀ a rs, Γ1.G a = some rs → ∃ more, Γ2.G a = some (rs ++ more)) ∧ Γ2.F = upd Γ1.F D (.lst vs2) ∧ Sim K Γ2 O1 H2 ∧ relR K Γ2 ρ2 σ2 ∧
      ρ2.length = n + (zz js ρ).length ∧ ρ2.drop n = zz js ρ ∧ Reps K Γ2.Z ((ws.take (i + 1)).filterMap F) vs2, fun σ2 H2 h => ⟨ws.length - (i + 1), by omega, hlt, rfl, h⟩, fun x H2 hy => ?_⟩
    obtain ⟨Γ2, l2, S2, rx⟩ := y x H2 hy
    obtain ⟨us, hus, rfl⟩ := xH n1 n2
    have et : ws.take (i + 1) = ws.take i ++ [ws[i]] := (List.take_append_getElem hlt).symm
    refine hg _ _ _ _ _ _ _ S2 (r'.mono l2) rx _ _ (hF _ (List.getElem_mem hlt) us hus) fun Γ3 O3 H3 ρ3 σ3 l3 S3 r3 h3 => ?_
    obtain ⟨⟨m1, m2⟩, h3⟩ := h3
    refine ht _ _ _ _ _ S3 r3 _ _ h3 fun Γ4 O4 H4 b l4 S4 h4 => ?_
    have l24 := (l2.trans l3).trans l4
    have up : ∀ Γ5, Le Γ' Γ5 → Same Γ1.Z Γ5.Z ∧ (∀ a rs, Γ1.G a = some rs → ∃ more, Γ5.G a = some (rs ++ more)) := fun Γ5 l => ⟨z'.trans l.z, fun a rs h => by
      obtain ⟨m, e⟩ := g' a rs h
      obtain ⟨m2, e2⟩ := l.g a _ e
      exact ⟨m ++ m2, by rw [← List.append_assoc]; exact e2⟩⟩
    cases b with
    | true =>
      rw [if_pos rfl] at h4 ⊢
      refine he _ _ _ _ _ S4 (r3.mono l4) _ _ h4 fun Γ5 O5 H5 w5 v5 l5 S5 r5 h5 => ?_
      obtain ⟨rfl, h5⟩ := h5
      have l25 := l24.trans l5
      cases hFw : F ws[i] with
      | none => rw [hFw] at h5; cases h5
      | some d =>
        rw [hFw] at h5
        cases h5
        have f5 : Γ5.F = upd Γ1.F D (.lst vs) := by rw [l25.f, f']
        have fD : Γ5.F D = some (.lst vs) := by rw [f5, zh]
        refine ⟨vs, S5.f _ _ fD, yG (by omega), ?_⟩
        obtain ⟨u1, u2⟩ := up Γ5 l25
        refine ⟨⟨Γ5.Z, Γ5.G, upd Γ5.F D (.lst (vs ++ [v5]))⟩, ρ3, vs ++ [v5], u1, u2, ?_, S5.framePut fD _, ((r3.mono l4).mono l5).setF, m1, m2, ?_⟩
        · show upd Γ5.F D _ = _
          rw [f5, vc]
        · rw [et, List.filterMap_append]
          have : ([ws[i]] : List W).filterMap F = [d] := by simp [hFw]
          rw [this]
          exact Reps.snoc (Reps.same l25.z _ _ rp) r5
    | false =>
      rw [if_neg (by decide)] at h4 ⊢
      obtain ⟨rfl, h4⟩ := h4
      obtain ⟨u1, u2⟩ := up Γ4 l24
      refine ⟨Γ4, ρ3, vs, u1, u2, by rw [l24.f, f'], S4, r3.mono l4, m1, m2, ?_⟩
      cases hFw : F ws[i] with
      | some d => rw [hFw] at h4; cases h4
      | none =>
        rw [et, List.filterMap_append]
        have : ([ws[i]] : List W).filterMap F = [] := by simp [hFw]
        rw [this, List.append_nil]
        exact Reps.same l24.z _ _ rp
  · have hi2 : i = ws.length := by omega
    subst hi2
    refine .inl ⟨ok2 rfl, ?_⟩
    rw [List.take_length] at rp
    obtain ⟨q1, q2, q3⟩ := S'.unframe f' hFD rp
    exact k ⟨upd Γ'.Z D (.lst vs), Γ'.G, Γ1.F⟩ _ _ _ _ (l1.trans ⟨rfl, z'.trans q1, g'⟩) q2 q3 hR
end
end L2
namespace L2
open PySem PySem.Spec PyProof.Rows
section
variable {K : PySem.W.Frag}
noncomputable def Ub {α : Type} (f : Str) (v : α) : List (Str × α) → List (Str × α)
  | [] => [(f, v)]
  | (g, x) :: r => if g = f then (g, v) :: r else (g, x) :: Ub f v r
noncomputable def jY : W → Option Key
  | .d (.int i) => some (.inl i)
  | .d (.str x) => some (.inr x)
  | _ => none
section
variable {κ α : Type} [DecidableEq κ]
noncomputable def QG (kvs : List (κ × α)) (k : κ) : Option α := (kvs.find? fun kv => decide (kv.1 = k)).map (·.2)
noncomputable def Qg (kvs : List (κ × α)) (k : κ) (v : α) : List (κ × α) := if (kvs.any fun kv => decide (kv.1 = k)) = true then kvs.map (fun kv => if kv.1 = k then (kv.1, v) else kv) else kvs ++ [(k, v)]
end
noncomputable def tyW (T : String) (O : OM) (w : W) : Prop := (T = "list" ∧ (zj O w).isSome = true) ∨ (T = "str" ∧ ∃ z, w = .d (.str z)) ∨ (T = "dict" ∧ ∃ a kvs, w = .own a ∧ O a = some (.dK kvs))
theorem YX {Γ : Gh} {O : OM} {H : Hp} {T : String} {w : W} {v : V} (S : Sim K Γ O H) (r : relW K Γ w v) (h : tyW T O w) : tyV K T v H := by
  rcases h with ⟨rfl, h⟩ | ⟨rfl, z, rfl⟩ | ⟨rfl, a, kvs, rfl, h⟩
  · obtain ⟨ws, e⟩ := Option.isSome_iff_exists.mp h
    obtain ⟨a, vs, rfl, q1, _⟩ := zO S r e
    exact .inl ⟨rfl, vs, q1⟩
  · rw [show v = .str z from r]; rfl
  · cases (show v = .ref a from r)
    obtain ⟨_, vs, q1, _⟩ := S.o _ _ h
    exact .inr (.inr (.inl ⟨rfl, .inl ⟨vs, q1⟩⟩))
noncomputable def wBM (T : String) (rw : W → List W → OM → WK → Prop) (To : TEW) (Ta : TAW) : TEW := fun ρ O R => To ρ O fun x O1 => tyW T O1 x ∧ Ta ρ O1 fun xs O2 => rw x xs O2 R
theorem Uc {T : String} {r : V → List V → Hp → VK → Prop} {rw : W → List W → OM → WK → Prop} {to : TE} {To : TEW} {t : TA} {Ta : TAW} (hr : RefM K T r rw) (ho : zl K to To) (ha : yn K t Ta) : zl K (tBM K T r to t) (wBM T rw To Ta) := by
  intro Γ O H ρ σ S r0 Q R hT k
  refine ho _ _ _ _ _ S r0 _ _ hT fun Γ1 O1 H1 x v l1 S1 rx h1 => ?_
  refine ⟨YX S1 rx h1.1, ha _ _ _ _ _ S1 (r0.mono l1) _ _ h1.2 fun Γ2 O2 H2 ws vs l2 S2 rs h2 => ?_⟩
  exact hr _ _ _ _ _ _ _ S2 (rx.mono l2) rs _ _ h2 fun Γ3 O3 H3 w u l3 => k _ _ _ _ _ ((l1.trans l2).trans l3)
noncomputable def Ud (T : String) (rw : W → List W → OM → WK → Prop) (To : TEW) : TEW := fun ρ O R => To ρ O fun x O1 => tyW T O1 x ∧ rw x [] O1 R
theorem XY {T : String} {r : V → List V → Hp → VK → Prop} {rw : W → List W → OM → WK → Prop} {to : TE} {To : TEW} (hr : RefM K T r rw) (ho : zl K to To) : zl K (ZG K T r to) (Ud T rw To) := by
  intro Γ O H ρ σ S r0 Q R hT k
  refine ho _ _ _ _ _ S r0 _ _ hT fun Γ1 O1 H1 x v l1 S1 rx h1 => ?_
  exact ⟨YX S1 rx h1.1, hr _ _ _ _ _ _ _ S1 rx .nil _ _ h1.2 fun Γ3 O3 H3 w u l3 => k _ _ _ _ _ (l1.trans l3)⟩
noncomputable def xi (O : OM) (o w : W) : Option OM := match o with
  | .own a => match O a with
    | some (.lst ws) => if ws.length < 1000 then some (updO O a (.lst (ws ++ [w]))) else none
    | some (.grid rows) => match w with
      | .own b => match O b with
        | some (.lst us) => if rows.length < 1000 then (zP us).map fun ds => updO (del O b) a (.grid (rows ++ [ds])) else none
        | _ => none
      | _ => none
    | _ => none
  | _ => none
noncomputable def jo : W → List W → OM → WK → Prop := fun x ws O R => ∃ w O1, ws = [w] ∧ xi O x w = some O1 ∧ R (.d .none) O1
theorem Z6 {T : String} : RefM K T jh jo := by
  rintro Γ O H x v xs vs S rx rs Q R ⟨w, O1, rfl, e, h⟩ k
  cases rs with
  | cons rw t =>
    cases t
    rename_i u
    cases x with
    | d _ => cases e
    | row _ _ => cases e
    | own a =>
      cases (show v = .ref a from rx)
      simp only [xi] at e
      split at e
      · rename_i ws ho
        split at e
        · rename_i hl
          cases e
          obtain ⟨_, us, q1, q2⟩ := S.o _ _ ho
          refine ⟨a, us, u, rfl, rfl, q1, by rw [← Paired.length q2]; exact yG (by omega), ?_⟩
          exact k _ _ _ _ _ (Le.refl _) (S.put (oo := .lst _) ho (by intro _ h; cases h) (by intro _ h; cases h) ⟨_, zh, Paired.appP q2 (.cons rw .nil)⟩) yP h
        · cases e
      · rename_i rows ho
        split at e
        · rename_i b
          cases (show u = .ref b from rw)
          split at e
          · rename_i us hb
            split at e
            · rename_i hl
              cases hd : zP us with
              | none => rw [hd] at e; cases e
              | some ds =>
                rw [hd] at e
                cases e
                rw [zX hd] at hb
                obtain ⟨_, rs, hg, _⟩ := S.o _ _ ho
                obtain ⟨q1, q2, Γ', l', S'⟩ := S.absorb ho hg hb
                refine ⟨a, _, .ref b, rfl, rfl, q1, by rw [List.length_map, q2]; exact yG (by omega), ?_⟩
                exact k _ _ _ _ _ l' S' yP h
            · cases e
          · cases e
        · cases e
      · cases e
noncomputable def k9 : W → List W → OM → WK → Prop := fun x ws O R => ∃ a us, x = .own a ∧ ws = [] ∧ O a = some (.lst us) ∧ R (.d .none) (updO O a (.lst []))
theorem XZ {T : String} : RefM K T kQ k9 := by
  rintro Γ O H x v xs vs S rx rs Q R ⟨a, us, rfl, rfl, ho, h⟩ k
  cases rs
  cases (show v = .ref a from rx)
  obtain ⟨_, vs, q1, q2⟩ := S.o _ _ ho
  exact ⟨a, vs, rfl, rfl, q1, k _ _ _ _ _ (Le.refl _) (S.put (oo := .lst []) ho (by intro _ h; cases h) (by intro _ h; cases h) ⟨_, zh, .nil⟩) yP h⟩
end
end L2
namespace L2
open PySem PySem.Spec PyProof.Rows
section
variable {K : PySem.W.Frag}
noncomputable def YY (t : TA) : TE := jH t
theorem xw {X : Cx} {es : List Expr} {t : TA} {pos : Pos} (h : QA X es t) : PE X (.List es pos) (YY t) := kM h.pa
noncomputable def YZ (T : TAW) : TEW := fun ρ O R => T ρ O fun ws O1 => ws.length ≤ 1000 ∧ ∀ p, O1 p = none → R (.own p) (updO O1 p (.lst ws))
theorem Z7 {t : TA} {T : TAW} (h : yn K t T) : zl K (YY t) (YZ T) := by
  intro Γ O H ρ σ S r0 Q R hT k
  refine h Γ O H ρ σ S r0 _ _ hT fun Γ1 O1 H1 ws vs l1 S1 rs h1 => ?_
  refine ⟨by rw [← Paired.length rs]; exact xu h1.1, fun p hp => ?_⟩
  obtain ⟨hO, S'⟩ := xv S1 rs hp
  exact k _ _ _ _ _ l1 S' ye (h1.2 p hO)
noncomputable def Ue (K : PySem.W.Frag) : List V → Hp → VK → Prop := rLo K
theorem Za {X : Cx} (h : X.K = K) : zY X (.type "list") (Ue K) := jN h
theorem QH : RefC K (rLo K) qw := XR
theorem Qh : RefC K (Ue K) qy := XS
noncomputable def wCs (vs : List V) : TAW := fun _ O R => R (vs.map ofV) O
noncomputable def tyD : PyData → Option String
  | .none => some "NoneType"
  | .bool _ => some "bool"
  | .int _ => some "int"
  | .str _ => some "str"
  | _ => none
noncomputable def isI : String → String → Option Bool
  | "int", "int" => some true
  | "int", "bool" => some false
  | "int", "str" => some false
  | "bool", "int" => some true
  | "bool", "bool" => some true
  | "bool", "str" => some false
  | "str", "int" => some false
  | "str", "bool" => some false
  | "str", "str" => some true
  | "NoneType", "int" => some false
  | "NoneType", "bool" => some false
  | "NoneType", "str" => some false
  | _, _ => none
noncomputable def Z8 (K : PySem.W.Frag) : List V → Hp → VK → Prop := fun xs H Q => ∃ x n t b, xs = [x, .ty n] ∧ TyOf K H x t ∧ PySem.W.kitOne K t (.type n) = some b ∧ Q (.bl b) H
theorem Zb {X : Cx} (h : X.K = K) : zY X (.builtin "isinstance") (Z8 K) := by subst h; exact qU
noncomputable abbrev TOW := WS → OM → (Option Int → OM → Prop) → Prop
noncomputable def ut (K : PySem.W.Frag) (t : TO) (T : TOW) : Prop := ∀ Γ O H ρ σ, Sim K Γ O H → relR K Γ ρ σ → ∀ (Q : Option Int → Hp → Prop) (R : Option Int → OM → Prop), T ρ O R → (∀ Γ' O' H' b, Le Γ Γ' → Sim K Γ' O' H' → R b O' → Q b H') → t σ H Q
noncomputable def jp : TOW := fun _ O R => R none O
noncomputable def Y0 (T : TEW) : TOW := fun ρ O R => T ρ O fun x O1 => ∃ i, x = .d (.int i) ∧ R (some i) O1
theorem jZ : ut K jf jp := fun Γ O H ρ σ S r Q R hT k => k _ _ _ _ (Le.refl _) S hT
theorem Z9 {t : TE} {T : TEW} (h : zl K t T) : ut K (YG t) (Y0 T) := by
  intro Γ O H ρ σ S r Q R hT k
  refine h _ _ _ _ _ S r _ _ hT fun Γ1 O1 H1 x v l1 S1 rx h1 => ?_
  obtain ⟨i, rfl, h1⟩ := h1
  exact ⟨i, rx, k _ _ _ _ l1 S1 h1⟩
noncomputable def xj {α : Type} (xs : List α) (lo hi : Option Int) : List α := (xs.drop (HT.sIx xs.length 0 lo)).take (HT.sIx xs.length xs.length hi - HT.sIx xs.length 0 lo)
theorem Ya {Z : Hp} {ds : List PyData} {vs : List V} (h : Reps K Z ds vs) (lo hi : Option Int) : Reps K Z (xj ds lo hi) (xY vs lo hi) := by
  have hp : relWs K ⟨Z, fun _ => none, fun _ => none⟩ (ds.map .d) vs := zD h
  have hl := Reps.length h
  have := Paired.takeP (Paired.dropP hp (HT.sIx vs.length 0 lo)) (HT.sIx vs.length vs.length hi - HT.sIx vs.length 0 lo)
  rw [← List.map_drop, ← List.map_take] at this
  unfold xj xY
  rw [hl]
  exact zm this
noncomputable def Uf (Te : TEW) (Tl Th : TOW) : TEW := fun ρ O R => Te ρ O fun x O1 => Tl ρ O1 fun l O2 => Th ρ O2 fun u O3 => ∃ ws ds, zj O3 x = some ws ∧ zP ws = some ds ∧ R (.d (.list (xj ds l u))) O3
theorem X0 {te : TE} {tl th : TO} {Te : TEW} {Tl Th : TOW} (he : zl K te Te) (hl : ut K tl Tl) (hh : ut K th Th) : zl K (tSl (jK K) te tl th) (Uf Te Tl Th) := by
  intro Γ O H ρ σ S r Q R hT k
  refine he _ _ _ _ _ S r _ _ hT fun Γ1 O1 H1 x v l1 S1 rx h1 => ?_
  refine hl _ _ _ _ _ S1 (r.mono l1) _ _ h1 fun Γ2 O2 H2 l l2 S2 h2 => ?_
  refine hh _ _ _ _ _ S2 (r.mono (l1.trans l2)) _ _ h2 fun Γ3 O3 H3 u l3 S3 h3 => ?_
  obtain ⟨ws, ds, e1, e2, h3⟩ := h3
  obtain ⟨a, vs, rfl, q1, q2⟩ := zO S3 ((rx.mono l2).mono l3) e1
  rw [zX e2] at q2
  refine ⟨a, vs, rfl, q1, fun p hp => ?_⟩
  obtain ⟨Γ', l', S', r'⟩ := x0 S3 (Ya (zm q2) l u) hp
  exact k _ _ _ _ _ (((l1.trans l2).trans l3).trans l') S' r' h3
noncomputable def Ug : R2W := fun x y O R => ∃ ws us ds es, zj O x = some ws ∧ zj O y = some us ∧ zP ws = some ds ∧ zP us = some es ∧ ds.length + es.length ≤ 1000 ∧ R (.d (.list (ds ++ es))) O
theorem vM {Z : Hp} : ∀ {ds es : List PyData} {vs us : List V}, Reps K Z ds vs → Reps K Z es us → Reps K Z (ds ++ es) (vs ++ us)
  | [], _, _, _, h, g => by rw [show _ = [] from h]; exact g
  | d :: ds, _, _, _, h, g => by
    obtain ⟨x, r, rfl, h1, h2⟩ := h
    exact ⟨x, _, rfl, h1, vM h2 g⟩
theorem Qi : RefR K (ZM K) Ug := by
  rintro Γ O H x y v u S rx ry Q R ⟨ws, us, ds, es, e1, e2, e3, e4, hl, h⟩ k
  obtain ⟨a, vs, rfl, q1, q2⟩ := zO S rx e1
  obtain ⟨b, zs, rfl, p1, p2⟩ := zO S ry e2
  rw [zX e3] at q2
  rw [zX e4] at p2
  have q3 := zm q2
  have p3 := zm p2
  refine ⟨a, b, vs, zs, rfl, rfl, q1, p1, by rw [← Reps.length q3, ← Reps.length p3]; exact xu hl, fun p hp => ?_⟩
  obtain ⟨Γ', l', S', r'⟩ := x0 S (vM q3 p3) hp
  exact k _ _ _ _ _ l' S' r' h
noncomputable def Y1 : R2W := fun x y O R => ∃ i j, x = .d (.str i) ∧ y = .d (.str j) ∧ i.length + j.length ≤ sizeLine ∧ R (.d (.str (i ++ j))) O
theorem Uh : RefR K (fun x y H Q => ∃ i j, x = .str i ∧ y = .str j ∧ i.length + j.length ≤ sizeLine ∧ Q (.str (i ++ j)) H) Y1 := by
  rintro Γ O H x y v u S rx ry Q R ⟨i, j, rfl, rfl, hl, h⟩ k
  exact ⟨i, j, rx, ry, hl, k _ _ _ _ _ (Le.refl _) S vg h⟩
end
end L2
namespace L2
open PySem PySem.Spec PyProof.Rows
section
variable {K : PySem.W.Frag}
theorem Sim.unframeO {Γ : Gh} {O : OM} {H : Hp} (S : Sim K Γ O H) {a : Addr} {ds : List PyData} {vs : List V} {F : Hp} (hF : Γ.F = upd F a (.lst vs)) (h0 : F a = none) (hr : Reps K Γ.Z ds vs) :
    O a = none ∧ Sim K ⟨Γ.Z, Γ.G, F⟩ (updO O a (.lst (ds.map .d))) H := by
  have hFa : Γ.F a = some (.lst vs) := by rw [hF, zh]
  obtain ⟨hz, hO, hrow⟩ := S.fd _ _ hFa
  have kF : ∀ b o, F b = some o → b ≠ a ∧ Γ.F b = some o := fun b o e => by
    have hb : b ≠ a := fun z => by rw [z, h0] at e; cases e
    exact ⟨hb, by rw [hF, zb hb]; exact e⟩
  have k1 : ∀ {x : Addr} {rx : List (List PyData)}, updO O a (.lst (ds.map .d)) x = some (.grid rx) → O x = some (.grid rx) := fun {x rx} h => by
    by_cases hx : x = a
    · subst hx; rw [zc] at h; cases h
    · rw [zf hx] at h; exact h
  refine ⟨hO, ⟨S.z, fun b oo e => ?_, S.gd, fun b u e => S.f _ _ (kF b u e).2, fun b oo e hn => ?_, fun b o e => S.fg b o (kF b o e).2, fun b o e => ⟨(S.fd b o (kF b o e).2).1, by rw [zf (kF b o e).1]; exact (S.fd b o (kF b o e).2).2.1, fun c rows rs e1 => (S.fd b o (kF b o e).2).2.2 c rows rs (k1 e1)⟩, fun x y ra rb rs ss r e1 e2 => S.u x y ra rb rs ss r (k1 e1) (k1 e2)⟩⟩
  · by_cases hb : b = a
    · subst hb
      rw [zc] at e
      cases e
      exact ⟨hz, vs, S.f _ _ hFa, zD hr⟩
    · rw [zf hb] at e
      obtain ⟨q1, q2⟩ := S.o _ _ e
      refine ⟨q1, (q2.keep (Le.refl _) rfl rfl fun rs r hg ⟨rows, hrw⟩ hm => ⟨rfl, rfl, ?_⟩).setF⟩
      subst hrw
      exact zf (fun z => hrow b rows rs e hg (by rw [← z]; exact hm))
  · by_cases hb : b = a
    · rw [hb]; exact S.fg _ _ hFa
    · rw [zf hb] at e; exact S.gn b oo e hn
noncomputable def Ui (wi : TI) (n : Nat) (js : List Nat) (g : TG) (tt : TT) (te : TE) : TE := tLc wi n js g tt te
section
variable {X : Cx} {N : List Str} {n : Nat} {js : List Nat} {scope : Scope} {cl : List (Str × Addr)} {elt tg iter : Expr} {ifs : List Expr} {pos : Pos} {wi : TI} {g : TG} {tt : TT} {te : TE}
theorem Uj (L : LcOk X N n js scope cl) (hc : X.calm = true) (hi : PI X tg iter wi)
    (hg : ∀ C s0 H0 fp0, PG (zA X N scope cl C s0 H0 fp0) tg g) (ht : ∀ C s0 H0 fp0, PTs (zA X N scope cl C s0 H0 fp0) ifs tt) (he : ∀ C s0 H0 fp0, PE (zA X N scope cl C s0 H0 fp0) elt te)
    (hs : ∀ x, foldedSetIterable iter X.env x = pure x := by intro _; rfl) : PE X (.ListComp elt [⟨tg, iter, ifs, 0⟩] scope pos) (Ui wi n js g tt te) := jL L hc hi hg ht he hs
end
noncomputable def Uk (Wi : TIW) (n : Nat) (js : List Nat) (G : TGW) (T : TTW) (E : TEW) : TEW := fun ρ O R => Wi ρ O fun ws keep O1 => keep O1 ∧ ws.length ≤ 1000 ∧ ∃ F : W → Option PyData,
  (∀ w ∈ ws, ∀ us : WS, us.length = n → v2 G T E n (zz js ρ) w (us ++ zz js ρ) O1 fun y O2 => O2 = O1 ∧ y = (F w).map .d) ∧ ∀ p, O1 p = none → R (.own p) (updO O1 p (.lst ((ws.filterMap F).map .d)))
theorem X1 {wi : TI} {Wi : TIW} {n : Nat} {js : List Nat} {g : TG} {G : TGW} {tt : TT} {T : TTW} {te : TE} {E : TEW} (hi : xG K wi Wi) (hg : RefG K g G) (ht : ym K tt T) (he : zl K te E) : zl K (Ui wi n js g tt te) (Uk Wi n js G T E) := by
  intro Γ O H ρ σ S r Q R hT k
  refine hi _ _ _ _ _ S r _ _ hT fun Γ1 O1 H1 J ws keep l1 S1 ok h1 => ?_
  obtain ⟨hk, hlen, F, hF, hR⟩ := h1
  intro D hD
  have hFD : Γ1.F D = none := S1.f.free hD
  have hOD := (S1.free hD).2.1
  have r1 := y8 (r.mono l1) n js
  refine ⟨fun i m σ' H' => i ≤ ws.length ∧ m = ws.length - i ∧ ∃ Γ' ρ' vs, Same Γ1.Z Γ'.Z ∧ (∀ a rs, Γ1.G a = some rs → ∃ more, Γ'.G a = some (rs ++ more)) ∧ Γ'.F = upd Γ1.F D (.lst vs) ∧ Sim K Γ' O1 H' ∧ relR K Γ' ρ' σ' ∧
    ρ'.length = n + (zz js ρ).length ∧ ρ'.drop n = zz js ρ ∧ Reps K Γ'.Z ((ws.take i).filterMap F) vs, ⟨_, Nat.zero_le _, rfl, _, _, [], Same.refl _, fun a rs h => ⟨[], by rw [List.append_nil]; exact h⟩, rfl, S1.frameNew hD (.lst []), r1.setF, by simp, by simp, rfl⟩, ?_⟩
  rintro i m σ' H' ⟨hi, rfl, Γ', ρ', vs, z', g', f', S', r', n1, n2, rp⟩
  obtain ⟨ok1, ok2⟩ := ok i Γ' O1 H' z' g' S' hk
  have hvl : vs.length ≤ i := by
    rw [← Reps.length rp]
    exact Nat.le_trans (List.length_filterMap_le _ _) (by rw [List.length_take]; omega)
  by_cases hlt : i < ws.length
  · obtain ⟨go, y⟩ := ok1 _ (List.getElem?_eq_getElem hlt)
    refine .inr ⟨go, fun σ2 H2 => ∃ Γ2 ρ2 vs2, Same Γ1.Z Γ2.Z ∧ (∀ a rs, Γ1.G a = some rs → ∃ more, Γ2.G a = some (rs ++ more)) ∧ Γ2.F = upd Γ1.F D (.lst vs2) ∧ Sim K Γ2 O1 H2 ∧ relR K Γ2 ρ2 σ2 ∧
      ρ2.length = n + (zz js ρ).length ∧ ρ2.drop n = zz js ρ ∧ Reps K Γ2.Z ((ws.take (i + 1)).filterMap F) vs2, fun σ2 H2 h => ⟨ws.length - (i + 1), by omega, hlt, rfl, h⟩, fun x H2 hy => ?_⟩
    obtain ⟨Γ2, l2, S2, rx⟩ := y x H2 hy
    obtain ⟨us, hus, rfl⟩ := xH n1 n2
    have et : ws.take (i + 1) = ws.take i ++ [ws[i]] := (List.take_append_getElem hlt).symm
    refine hg _ _ _ _ _ _ _ S2 (r'.mono l2) rx _ _ (hF _ (List.getElem_mem hlt) us hus) fun Γ3 O3 H3 ρ3 σ3 l3 S3 r3 h3 => ?_
    obtain ⟨⟨m1, m2⟩, h3⟩ := h3
    refine ht _ _ _ _ _ S3 r3 _ _ h3 fun Γ4 O4 H4 b l4 S4 h4 => ?_
    have l24 := (l2.trans l3).trans l4
    have up : ∀ Γ5, Le Γ' Γ5 → Same Γ1.Z Γ5.Z ∧ (∀ a rs, Γ1.G a = some rs → ∃ more, Γ5.G a = some (rs ++ more)) := fun Γ5 l => ⟨z'.trans l.z, fun a rs h => by
      obtain ⟨m, e⟩ := g' a rs h
      obtain ⟨m2, e2⟩ := l.g a _ e
      exact ⟨m ++ m2, by rw [← List.append_assoc]; exact e2⟩⟩
    cases b with
    | true =>
      rw [if_pos rfl] at h4 ⊢
      refine he _ _ _ _ _ S4 (r3.mono l4) _ _ h4 fun Γ5 O5 H5 w5 v5 l5 S5 r5 h5 => ?_
      obtain ⟨rfl, h5⟩ := h5
      have l25 := l24.trans l5
      cases hFw : F ws[i] with
      | none => rw [hFw] at h5; cases h5
      | some d =>
        rw [hFw] at h5
        cases h5
        have f5 : Γ5.F = upd Γ1.F D (.lst vs) := by rw [l25.f, f']
        have fD : Γ5.F D = some (.lst vs) := by rw [f5, zh]
        refine ⟨vs, S5.f _ _ fD, yG (by omega), ?_⟩
        obtain ⟨u1, u2⟩ := up Γ5 l25
        refine ⟨⟨Γ5.Z, Γ5.G, upd Γ5.F D (.lst (vs ++ [v5]))⟩, ρ3, vs ++ [v5], u1, u2, ?_, S5.framePut fD _, ((r3.mono l4).mono l5).setF, m1, m2, ?_⟩
        · show upd Γ5.F D _ = _
          rw [f5, vc]
        · rw [et, List.filterMap_append]
          have : ([ws[i]] : List W).filterMap F = [d] := by simp [hFw]
          rw [this]
          exact Reps.snoc (Reps.same l25.z _ _ rp) r5
    | false =>
      rw [if_neg (by decide)] at h4 ⊢
      obtain ⟨rfl, h4⟩ := h4
      obtain ⟨u1, u2⟩ := up Γ4 l24
      refine ⟨Γ4, ρ3, vs, u1, u2, by rw [l24.f, f'], S4, r3.mono l4, m1, m2, ?_⟩
      cases hFw : F ws[i] with
      | some d => rw [hFw] at h4; cases h4
      | none =>
        rw [et, List.filterMap_append]
        have : ([ws[i]] : List W).filterMap F = [] := by simp [hFw]
        rw [this, List.append_nil]
        exact Reps.same l24.z _ _ rp
  · have hi2 : i = ws.length := by omega
    subst hi2
    refine .inl ⟨ok2 rfl, ?_⟩
    rw [List.take_length] at rp
    obtain ⟨q1, q2⟩ := S'.unframeO f' hFD rp
    exact k ⟨Γ'.Z, Γ'.G, Γ1.F⟩ _ _ _ _ (l1.trans ⟨rfl, z', g'⟩) q2 ye (hR D hOD)
end
end L2
namespace L2
open PySem PySem.Spec PyProof.Rows
section
variable {X : Cx} {K : PySem.W.Frag}
theorem zv (hK : X.K = K) : IxR X (ZF K) := by subst hK; exact VJ
theorem yq {tg l : Expr} {tl : TE} (hK : X.K = K) (hl : PE X l tl) : PI X tg l (jE K tl) := by subst hK; exact Xr hl
theorem X2 {es : List Expr} {k : Nat} {t : TGs} {n : Nat} {pos : Pos} (hK : X.K = K) (hc : X.calm = true) (h : PGs X es t)
    (hn : (assignEach es X.env).length = n := by rfl) (hst : (assignEach es X.env).findIdx? (·.1) = none := by rfl) : PG X (.Tuple es k pos) (ZB K n t) := by subst hK; exact VA hc h hn hst
section
variable {T : String} {name : Str} {id : String} {r : V → List V → Hp → VK → Prop} {o e : Expr} {es : List Expr} {to : TE} {t : TA} {apos cpos : Pos}
theorem jq (hK : X.K = K) (pa : PlainAttrs T) (slot : Slot T name id) (hty : typeOf (.builtin id) = pure (.type "method_descriptor")) (hm : MtR X id r) (ho : PE X o to)
    (hbase : attributeBase o name X.env (eval o X.env) = eval o X.env := by rfl) (hline : (apos.endLine == cpos.line) = true := by rfl) : PE X (.Call (.Attribute o name apos) [] [] cpos) (ZG K T r to) := by subst hK; exact VL pa slot hty hm ho hbase hline
theorem xx (hK : X.K = K) (pa : PlainAttrs T) (slot : Slot T name id) (hty : typeOf (.builtin id) = pure (.type "method_descriptor")) (hm : MtR X id r) (ho : PE X o to) (ha : PA X (e :: es) t)
    (hbase : attributeBase o name X.env (eval o X.env) = eval o X.env := by rfl)
    (hfew : ((backTo cpos (starEach (e :: es) X.env)).all (fun x => !x.1) && (backToKw cpos (keywordEach [] X.env)).all (fun x => x.1.isSome) && decide ((e :: es).length + ([] : List Keyword).length + (if ([] : List Keyword).isEmpty then 0 else 1) < 30)) = true := by rfl)
    (hline : (apos.endLine == cpos.line) = true := by rfl) (hs : starEach (e :: es) X.env = (false, eval e X.env) :: starEach es X.env := by rfl) (hplain : (backTo cpos (starEach es X.env)).any (·.1) = false := by rfl) :
    PE X (.Call (.Attribute o name apos) (e :: es) [] cpos) (tBM K T r to t) := by subst hK; exact U4 pa slot hty hm ho ha hbase hfew hline hs hplain
end
noncomputable def Y2 (K : PySem.W.Frag) : List V → Hp → VK → Prop := fun xs H Q => ∃ p ys, xs = [.ref p] ∧ (SqL K H p ys ∨ SqT K H p ys) ∧ Q (.int ys.length) H
theorem yj (hK : X.K = K) : zY X (.builtin "len") (Y2 K) := by subst hK; exact qf
theorem Ul : RefC K (Y2 K) ZW := Qe
theorem qz (hK : X.K = K) (hu : X.A.units + 64 < cLine) : OpR X (compareOp .Eq) (jM K) := by subst hK; exact VR hu
theorem qA (hK : X.K = K) (hu : X.A.units + 64 < cLine) : OpR X (compareOp .NotEq) (ZJ K) := by subst hK; exact VS hu
theorem X3 : ym K VQ (fun _ O R => R true O) := fun Γ O H ρ σ S r Q R hT k => k _ _ _ _ (Le.refl _) S hT
end
section
variable {K : PySem.W.Frag}
end
end L2
namespace L2
open PySem PySem.Spec PyProof.Rows
section
variable {K : PySem.W.Frag}
theorem Zc {s : SpW} {t : TA} {T : TAW} (h : yn K t T) : zl K (vQ (zg K s) [] E0 t) (v0 s [] T) := qv h
theorem Zd {s : SpW} {i : Int} {t : TA} {T : TAW} (h : yn K t T) : zl K (vQ (zg K s) [.int i] E0 t) (v0 s [.int i] T) := qv h
theorem vN {T U : TSW} {D : EndsW} {ρ : WS} {O : OM} (J : WS → OM → Prop) (ht : ∀ R : WS → OM → Prop, (∀ ρ' O', J ρ' O' → R ρ' O') → T { D with nx := R } ρ O) (hu : ∀ ρ' O', J ρ' O' → U D ρ' O') : yK T U D ρ O := ht (U D) hu
theorem z7.by {ws : List W} {keep : OM → Prop} {G : TGW} {TB : TSW} {D : EndsW} {ρ : WS} {O : OM} (Pv : Nat → WS → OM → Prop) (h0 : Pv 0 ρ O) (hk : ∀ i ρ O, Pv i ρ O → keep O)
    (hs : ∀ i w ρ O, ws[i]? = some w → Pv i ρ O → ∀ R : WS → OM → Prop, (∀ ρ' O', Pv (i + 1) ρ' O' → R ρ' O') → G w ρ O fun ρ' O' => TB { D with nx := R, ct := R, bk := D.nx } ρ' O') (hd : ∀ ρ O, Pv ws.length ρ O → D.nx ρ O) : z7 ws keep G TB D ρ O :=
  ⟨Pv, h0, hk, fun i w ρ O e p => hs i w ρ O e p _ fun _ _ z => z, hd⟩
theorem z7.rng {n : Nat} {f : Nat → Int} {G : TGW} {TB : TSW} {D : EndsW} {ρ : WS} {O : OM} (Pv : Nat → WS → OM → Prop) (h0 : Pv 0 ρ O)
    (hs : ∀ i ρ O, i < n → Pv i ρ O → ∀ R : WS → OM → Prop, (∀ ρ' O', Pv (i + 1) ρ' O' → R ρ' O') → G (.d (.int (f i))) ρ O fun ρ' O' => TB { D with nx := R, ct := R, bk := D.nx } ρ' O') (hd : ∀ ρ O, Pv n ρ O → D.nx ρ O) : z7 ((List.range n).map fun i => .d (.int (f i))) (fun _ => True) G TB D ρ O :=
  z7.by Pv h0 (fun _ _ _ _ => trivial) (fun i w ρ O e p R hR => by
    rw [List.getElem?_map] at e
    cases hr : (List.range n)[i]? with
    | none => rw [hr] at e; cases e
    | some j =>
      rw [hr] at e
      cases e
      obtain ⟨hi, hj⟩ := List.getElem?_eq_some_iff.mp hr
      simp at hi hj
      subst hj
      exact hs i ρ O hi p R hR) (fun ρ O p => hd ρ O (by simpa using p))
theorem us2 {P : WS → Prop} : (∀ us : WS, us.length = 2 → P us) ↔ ∀ u v, P [u, v] := by
  constructor
  · intro h u v; exact h [u, v] rfl
  · intro h us hl
    match us, hl with
    | [u, v], _ => exact h u v
end
noncomputable abbrev PF := Nat → Nat → Cel
noncomputable def genG (h w : Nat) (f : PF) : List (List PyData) := (List.range h).map fun i => (List.range w).map fun j => zw (f i j)
noncomputable def setF (f : PF) (i j : Nat) (c : Cel) : PF := fun a b => if a = i ∧ b = j then c else f a b
end L2
namespace L2
open PySem PySem.Spec PyProof.Rows
theorem yy {X : Cx} : OpR X (binaryOp .Mult) (rI IntMulOk fun i j => .int (i * j)) := opI fun _ _ _ _ _ _ _ hc q => mul_int q hc
theorem mulL {a b : Int} (h1 : -1000000000000 ≤ a) (h2 : a ≤ 1000000000000) : IntMulOk a b := (XE h1 h2).ok
theorem mulR {a b : Int} (h1 : -1000000000000 ≤ b) (h2 : b ≤ 1000000000000) : IntMulOk a b := (ZK h1 h2).ok
noncomputable def Bt (m : Nat) (c : Int) : Prop := c.natAbs < 2 ^ m
theorem Bt.bits {m : Nat} {c : Int} (h : Bt m c) : Builtin.Int.intBits c ≤ m := by
  unfold Builtin.Int.intBits
  by_cases hc : c = 0
  · simp [hc]
  · have hn : c.natAbs ≠ 0 := by omega
    simp only [beq_iff_eq, hc, if_false]
    exact (Nat.log2_lt hn).mpr h
theorem Bt.mono {m n : Nat} {a : Int} (ha : Bt m a) (h : m ≤ n) : Bt n a := Nat.lt_of_lt_of_le ha (Nat.pow_le_pow_right (by decide) h)
theorem Bt.small {a : Int} (h1 : -1000000000000 ≤ a) (h2 : a ≤ 1000000000000) : Bt 40 a := by
  unfold Bt
  have : (2 : Nat) ^ 40 = 1099511627776 := by decide
  omega
end L2
namespace L2
open PySem PySem.Spec PyProof.Rows
section
variable {K : PySem.W.Frag}
theorem RefR.weak {r : R2} {rw rw' : R2W} (h : RefR K r rw) (imp : ∀ x y O R, rw' x y O R → rw x y O R) : RefR K r rw' := fun Γ O H x y v u S rx ry Q R hT k => h Γ O H x y v u S rx ry Q R (imp _ _ _ _ hT) k
theorem RefC.weak {r : List V → Hp → VK → Prop} {rw rw' : List W → OM → WK → Prop} (h : RefC K r rw) (imp : ∀ x O R, rw' x O R → rw x O R) : RefC K r rw' := fun Γ O H xs vs S rs Q R hT k => h Γ O H xs vs S rs Q R (imp _ _ _ hT) k
noncomputable def j4 (i : Nat) : TEW := fun ρ O R => match ρ[i]? with
  | some (some w) => R w O
  | _ => False
theorem Um {i : Nat} : zl K (jA i) (j4 i) := fun Γ O H ρ σ S r Q R hT k => XH Γ O H ρ σ S r Q R (by
  unfold j4 at hT
  split at hT
  · rename_i w e; exact ⟨w, e, hT⟩
  · exact hT.elim) k
noncomputable def vI0 (g : Int → Int → V) : R2W := fun x y O R => match x, y with
  | .d (.int i), .d (.int j) => R (ofV (g i j)) O
  | _, _ => False
noncomputable def vI (C : Int → Int → Prop) (g : Int → Int → V) : R2W := fun x y O R => match x, y with
  | .d (.int i), .d (.int j) => C i j ∧ R (ofV (g i j)) O
  | _, _ => False
theorem Qj {g : Int → Int → V} (hg : ∀ i j, scV (g i j) = true := by intro _ _; rfl) : RefR K (rI0 g) (vI0 g) := (QB hg).weak fun x y O R h => by
  unfold vI0 at h
  split at h
  · exact ⟨_, _, rfl, rfl, h⟩
  · exact h.elim
theorem QI {C : Int → Int → Prop} {g : Int → Int → V} (hg : ∀ i j, scV (g i j) = true := by intro _ _; rfl) : RefR K (rI C g) (vI C g) := (r_I hg).weak fun x y O R h => by
  unfold vI at h
  split at h
  · exact ⟨_, _, rfl, rfl, h⟩
  · exact h.elim
noncomputable def vU (g : Int → V) : W → OM → WK → Prop := fun x O R => match x with
  | .d (.int i) => R (ofV (g i)) O
  | _ => False
noncomputable def vEq : R2W := fun x y O R => match x, y with
  | .d (.int i), .d (.int j) => R (.d (.bool (decide (i = j)))) O
  | .d a, .d b => scD a = true ∧ scD b = true ∧ u7 (vOf a) (vOf b) = true ∧ R (.d (.bool (decide (vOf a = vOf b)))) O
  | _, _ => False
noncomputable def vNe : R2W := fun x y O R => match x, y with
  | .d (.int i), .d (.int j) => R (.d (.bool (!decide (i = j)))) O
  | .d a, .d b => scD a = true ∧ scD b = true ∧ u7 (vOf a) (vOf b) = true ∧ R (.d (.bool (!decide (vOf a = vOf b)))) O
  | _, _ => False
theorem Qk : RefR K rEq vEq := QC.weak fun x y O R h => by
  unfold vEq at h
  split at h
  · rename_i i j
    have e : decide (vOf (.int i) = vOf (.int j)) = decide (i = j) := by simp [vOf]
    exact ⟨.int i, .int j, rfl, rfl, rfl, rfl, rfl, by rw [e]; exact h⟩
  · exact ⟨_, _, rfl, rfl, h⟩
  · exact h.elim
noncomputable def Uo : R2W := fun x y O R => match y with
  | .d .none => R (.d (.bool (jS x))) O
  | _ => False
noncomputable def Y3 : R2W := fun x y O R => match y with
  | .d .none => R (.d (.bool (!jS x))) O
  | _ => False
noncomputable def Yb : R2W := fun x y O R => match y with
  | .d (.int i) => ∃ ws, zj O x = some ws ∧ ∃ w, atI ws i = some w ∧ R w O
  | _ => False
theorem Uq : RefR K (jI K) Yb := Qb.weak fun x y O R h => by
  unfold Yb at h
  split at h
  · obtain ⟨ws, e, w, e2, h⟩ := h
    exact ⟨ws, _, w, rfl, e, e2, h⟩
  · exact h.elim
noncomputable def uV (T : TEW) : TTW := fun ρ O R => T ρ O fun x O1 => match x with
  | .d (.bool k) => R k O1
  | _ => False
theorem jr {t : TE} {T : TEW} (h : zl K t T) : ym K (YE t) (uV T) := by
  intro Γ O H ρ σ S r0 Q R hT k
  refine h Γ O H ρ σ S r0 _ _ hT fun Γ1 O1 H1 x v l1 S1 rx h1 => ?_
  split at h1
  · exact ⟨_, rx, k _ _ _ _ l1 S1 h1⟩
  · exact h1.elim
theorem Ql {t : TE} {T : TEW} (h : zl K t T) : ym K (tB t) (uV T) := jr h
noncomputable def Ze (r r' : R2W) (Ta Tb Tc : TEW) : TEW := fun ρ O R => Ta ρ O fun x O1 => Tb ρ O1 fun y O2 => r x y O2 fun z O3 => match z with
  | .d (.bool k) => if k = true then Tc ρ O3 fun w O4 => r' y w O4 R else R (.d (.bool false)) O3
  | _ => False
noncomputable def Ur (K : PySem.W.Frag) (Ta : TEW) (f : Str) : TEW := fun ρ O R => Ta ρ O fun x O1 => match x with
  | .own a => ∃ C dx fs, O1 a = some (.ins C dx fs) ∧ Cls K C ∧ kK K C f ∧ ∃ w, fs.lookup f = some w ∧ R w O1
  | _ => False
noncomputable def Y4 (K : PySem.W.Frag) (Ta Tv : TEW) (f : Str) : TSW := fun D ρ O => Tv ρ O fun y O1 => Ta ρ O1 fun x O2 => match x with
  | .own a => ∃ C dx fs, O2 a = some (.ins C dx fs) ∧ Cls K C ∧ kK K C f ∧ fs.length < 1000 ∧ D.nx ρ (updO O2 a (.ins C dx (Ub f y fs)))
  | _ => False
noncomputable def Zf (Td Ty : TEW) : TEW := fun ρ O R => Td ρ O fun x O1 => Ty ρ O1 fun y O2 => match x, jY y with
  | .own a, some k => ∃ kvs, O2 a = some (.dK kvs) ∧ ∃ w, QG kvs k = some w ∧ R w O2
  | _, _ => False
noncomputable def Zg (Td Ty Tv : TEW) : TSW := fun D ρ O => Tv ρ O fun w O1 => Td ρ O1 fun x O2 => Ty ρ O2 fun y O3 => match x, jY y with
  | .own a, some k => ∃ kvs, O3 a = some (.dK kvs) ∧ kvs.length < 1000 ∧ D.nx ρ (updO O3 a (.dK (Qg kvs k w)))
  | _, _ => False
noncomputable def vI2 (g : Int → Int → Int) : List W → OM → WK → Prop := fun xs O R => match xs with
  | [.d (.int i), .d (.int j)] => R (.d (.int (g i j))) O
  | _ => False
end
end L2
namespace L2
open PySem PySem.Spec PyProof.Rows
section
variable {X : Cx}
theorem x3 : ∀ {zs : List Str} {us : List Value}, Vals (zs.map V.str) us → StrsAre us zs
  | [], _, .nil => .nil
  | z :: zs, _, .cons r t => by
    obtain ⟨k, rfl⟩ := r
    exact .cons z k (x3 t)
noncomputable def j6 (K : PySem.W.Frag) : V → List V → Hp → VK → Prop := fun x xs H Q => ∃ sep a zs, x = .str sep ∧ xs = [.ref a] ∧ SqL K H a (zs.map .str) ∧ sep.length ≤ 16 ∧ (zs.map (·.length)).sum + zs.length ≤ 1048576 ∧ Q (.str (Txt.join sep zs)) H
theorem X4 : MtR X "str.join" (j6 X.K) := by
  intro pins s σ H x xs v us Q I rx r h
  obtain ⟨sep, a, zs, rfl, rfl, hq, hs, hw, q⟩ := h
  obtain ⟨u, rfl, ru⟩ := r.one
  cases ru
  obtain ⟨t, rfl⟩ := rx
  obtain ⟨its, rv, p, hz⟩ := I.list hq
  exact join_listW p.isList (x3 rv) hs hw fun t' k => ⟨.str _, H, I.tok _, ⟨_, rfl⟩, q⟩
noncomputable def Its (x : Str) : It := ⟨fun i _ => i < x.cps.size, fun i H v H' => H' = H ∧ ∃ c, x.cps[i]? = some c ∧ v = .str ⟨#[c]⟩, fun i _ => x.cps.size ≤ i⟩
theorem j7 {P : Program} {w : World} {K : PySem.W.Frag} {tg : Expr} (x : Str) (t : Tok) (it : Addr) : Turn P w K tg (Its x) [it] it (fun i h => h.IsStrIter it "str_ascii_iterator" x t i) where
  mem := List.mem_singleton.mpr rfl
  obj := fun i h st b hb => by
    cases List.mem_singleton.mp hb
    obtain ⟨o, e, c, d⟩ := st
    exact ⟨o, e, fun v z => by rw [d] at z; cases z⟩
  keep := fun i h h' st k => let ⟨o, ho, r⟩ := st; ⟨o, k it (List.mem_singleton.mpr rfl) o ho, r⟩
  item := by
    intro X hP hw hK hc i pins s σ H E I hf st hg
    subst hP hw hK
    obtain ⟨f0, f1, f2, f3, f4, f5⟩ := hf it (List.mem_singleton.mpr rfl)
    have hi : i < x.cps.size := hg
    refine wpAny_pyNext_ascii_item st (c := x.cps[i]) (by simp [hi]) fun h1 st1 sb => ?_
    have I1 : Inv X pins σ H { s with heap := h1, toks := s.toks + 1 } := I.turned (t' := s.toks + 1) (fun b o hb e => (sb.2 b hb).trans e) f0 f1 f3 f4 f5
    obtain ⟨o, e, c, d⟩ := id st1
    exact ⟨_, rfl, jC (s := { s with heap := h1, toks := s.toks + 1 }) e c d (by decide) ⟨.str ⟨#[x.cps[i]]⟩, H, I1, ⟨_, rfl⟩, ⟨rfl, _, by simp [hi], rfl⟩, st1, fun b hb => (hf b hb).1⟩⟩
  done := by
    intro X hP hw hK hc i pins s σ H E I hf st hg
    subst hP hw hK
    obtain ⟨f0, f1, f2, f3, f4, f5⟩ := hf it (List.mem_singleton.mpr rfl)
    have hi : x.cps.size ≤ i := hg
    exact wpAny_pyNext_ascii_end (I.ok.hd hc) st (by simp [hi]) fun h1 eb => ⟨rfl, I.turned (t' := s.toks) (fun b o hb e => eb b o hb e) f0 f1 f3 f4 f5⟩
  self := fun _ _ _ _ _ st h => wpAny_pyIter_striter_ascii st h
noncomputable def Us (tl : TE) : TI := fun σ H R => tl σ H fun v H1 => ∃ x, v = .str x ∧ x.cps.all (· < 128) = true ∧ R (Its x) H1
theorem Ut {tg l : Expr} {tl : TE} (hl : PE X l tl) : PI X tg l (Us tl) := by
  intro pins s σ H R I h
  refine thn (hl pins s σ H _ I h) fun v s1 ⟨y, H1, I1, r1, q1⟩ => ?_
  obtain ⟨x, rfl, ha, q⟩ := q1
  obtain ⟨t, rfl⟩ := r1
  refine wpAny_pyIter_ascii ha ⟨s1.heap.objs.size, [s1.heap.objs.size], _, _, H1, rfl, I1.kept (t' := s1.toks) fun b o e => Heap.get?_push_of_some _ e, j7 x t _, ⟨_, Heap.get?_push_size _ rfl, rfl, rfl⟩, fun b hb => ?_, q⟩
  cases List.mem_singleton.mp hb
  exact I1.fpOk (Nat.le_refl _) (I1.hok.fresh (Nat.le_refl _))
end
end L2
namespace L2
open PySem PySem.Spec PyProof.Rows
section
variable {X : Cx} {K : PySem.W.Frag}
theorem X5 (h : X.K = K) : MtR X "str.join" (j6 K) := by subst h; exact X4
noncomputable def Uu (z : Str) : W := .d (.str z)
theorem uI {Γ : Gh} : ∀ {zs : List Str} {vs : List V}, relWs K Γ (zs.map Uu) vs → vs = zs.map V.str
  | [], _, .nil => rfl
  | z :: zs, _, .cons r t => by rw [uI t, show _ = V.str z from r]; rfl
noncomputable def Y5 : W → List W → OM → WK → Prop := fun x xs O R => ∃ sep w, ∃ zs : List Str, x = .d (.str sep) ∧ xs = [w] ∧ zj O w = some (zs.map Uu) ∧ sep.length ≤ 16 ∧ (zs.map (·.length)).sum + zs.length ≤ 1048576 ∧ R (.d (.str (Txt.join sep zs))) O
theorem Uv {T : String} : RefM K T (j6 K) Y5 := by
  rintro Γ O H x v xs vs S rx rs Q R ⟨sep, w, zs, rfl, rfl, e, h1, h2, h⟩ k
  cases rs with
  | cons rw t =>
    cases t
    obtain ⟨a, us, rfl, q1, q2⟩ := zO S rw e
    rw [uI q2] at q1
    exact ⟨sep, a, zs, rx, rfl, q1, h1, h2, k _ _ _ _ _ (Le.refl _) S vg h⟩
noncomputable def y9 (x : Str) : List W := x.cps.toList.map fun c => .d (.str ⟨#[c]⟩)
noncomputable def Uw (T : TEW) : TIW := fun ρ O R => T ρ O fun w O1 => ∃ x, w = .d (.str x) ∧ x.cps.all (· < 128) = true ∧ R (y9 x) (fun _ => True) O1
theorem Yc {t : TE} {T : TEW} (h : zl K t T) : xG K (Us t) (Uw T) := by
  intro Γ O H ρ σ S r Q R hT k
  refine h _ _ _ _ _ S r _ _ hT fun Γ1 O1 H1 w v l1 S1 r1 h1 => ?_
  obtain ⟨x, rfl, ha, h1⟩ := h1
  refine ⟨x, r1, ha, k _ _ _ _ _ _ l1 S1 (fun i Γ' O' H' hz hg S' _ => ⟨fun w' hw => ?_, fun hi => ?_⟩) h1⟩
  · unfold y9 at hw
    rw [List.getElem?_map] at hw
    cases hc : x.cps.toList[i]? with
    | none => rw [hc] at hw; cases hw
    | some c =>
      rw [hc] at hw
      cases hw
      have hi : i < x.cps.size := by
        have := (List.getElem?_eq_some_iff.mp hc).1
        simpa using this
      refine ⟨hi, fun y H2 ⟨e2, d, hd, hy⟩ => ?_⟩
      subst e2
      have : d = c := by
        have h3 : x.cps.toList[i]? = some d := by rw [Array.getElem?_toList]; exact hd
        rw [hc] at h3; cases h3; rfl
      subst this
      exact ⟨Γ', Le.refl _, S', by rw [hy]; exact vg⟩
  · show x.cps.size ≤ i
    rw [hi]; simp [y9]
end
end L2
namespace L2
open PySem PySem.Spec PyProof.Rows
section
variable {X : Cx} {K : PySem.W.Frag}
end
end L2
namespace L2
open PySem PySem.Spec PyProof.Rows
section
variable {K : PySem.W.Frag}
end
end L2
namespace L2
open PySem PySem.Spec PyProof.Rows
section
variable {K : PySem.W.Frag}
theorem vO {Z : Hp} {ds : List PyData} {vs : List V} (h : Reps K Z ds vs) : ∀ n, Reps K Z (List.replicate n ds).flatten (List.replicate n vs).flatten
  | 0 => rfl
  | n + 1 => by
    rw [List.replicate_succ, List.replicate_succ, List.flatten_cons, List.flatten_cons]
    exact vM h (vO h n)
noncomputable def qB (Ta : TEW) : TEW := fun ρ O R => Ta ρ O fun x O1 => ∃ a ws, x = .own a ∧ O1 a = some (.lst ws) ∧ R (.d (.bool true)) O1
theorem X6 {ta : TE} {Ta : TEW} (h : zl K ta Ta) : zl K (tCB (Z8 K) (xC ta (xC (tC (.ty "list")) u8))) (qB Ta) := by
  intro Γ O H ρ σ S r Q R hT k
  refine h _ _ _ _ _ S r _ _ hT fun Γ1 O1 H1 x v l1 S1 rx h1 => ?_
  obtain ⟨a, ws, rfl, ho, h1⟩ := h1
  cases (show v = .ref a from rx)
  obtain ⟨_, vs, q1, _⟩ := S1.o _ _ ho
  exact ⟨_, _, _, true, rfl, .lst q1, rfl, k _ _ _ _ _ l1 S1 yW h1⟩
end
end L2
namespace L2
open PySem PySem.Spec PyProof.Rows
structure KP where
  row : Int
  col : Int
  late : Bool
  ink : Int
  wrap : Bool
  putting : Bool
  home : Bool
noncomputable def kpT (k : KP) : PyData := .tuple [.int k.row, .int k.col, .bool k.late, .int k.ink, .bool k.wrap, .bool k.putting, .bool k.home]
noncomputable def stK (ks : List Int) : List (Key × W) := ks.map fun i => (Sum.inl i, W.d (.bool true))
structure ST where
  w : Nat
  h : Nat
  row : Int
  col : Int
  late : Bool
  ink : Int
  wrap : Bool
  putting : Bool
  home : Bool
  top : Int
  bottom : Int
  left : Int
  right : Int
  last : PyData
  pic : PF
  stops : List Int
  kept : List KP
noncomputable def fldW (p st kp : Addr) (S : ST) : List (Str × W) := [("picture", .own p), ("wide", .d (.int S.w)), ("high", .d (.int S.h)), ("row", .d (.int S.row)), ("column", .d (.int S.col)), ("late", .d (.bool S.late)), ("ink", .d (.int S.ink)), ("wrap", .d (.bool S.wrap)), ("putting", .d (.bool S.putting)), ("home", .d (.bool S.home)), ("top", .d (.int S.top)), ("bottom", .d (.int S.bottom)), ("left", .d (.int S.left)), ("right", .d (.int S.right)), ("stops", .own st), ("kept", .own kp), ("last", .d S.last)]
noncomputable def ownW (q : Addr) (S : ST) : List (Key × W) := [(Sum.inr "wide", .d (.int S.w)), (Sum.inr "high", .d (.int S.h)), (Sum.inr "top", .d (.int S.top)), (Sum.inr "left", .d (.int S.left)), (Sum.inr "cells", .own q), (Sum.inr "bottom", .d (.int S.bottom)), (Sum.inr "right", .d (.int S.right)), (Sum.inr "home", .d (.bool S.home)), (Sum.inr "putting", .d (.bool S.putting)), (Sum.inr "wrap", .d (.bool S.wrap)), (Sum.inr "last", .d S.last), (Sum.inr "late", .d (.bool S.late)), (Sum.inr "ink", .d (.int S.ink)), (Sum.inr "row", .d (.int S.row)), (Sum.inr "column", .d (.int S.col))]
section
variable {p st kp q : Addr} {S : ST}
end
structure StAt (O : OM) (C x dx p st kp : Addr) (S : ST) : Prop where
  x : O x = some (.ins C dx (fldW p st kp S))
  p : O p = some (.grid (genG S.h S.w S.pic))
  st : O st = some (.dK (stK S.stops))
  kp : O kp = some (.lst ((S.kept.map kpT).map .d))
theorem neW {O : OM} {a b : Addr} {o u : OO} (h : O a = some o) (h' : O b = some u) (d : o ≠ u) : a ≠ b := by
  intro e; subst e; rw [h] at h'; exact d (Option.some.inj h')
section
variable {O O' : OM} {C x dx p st kp : Addr} {S : ST}
theorem StAt.xp (s : StAt O C x dx p st kp S) : x ≠ p := neW s.x s.p (by intro h; cases h)
theorem StAt.xs (s : StAt O C x dx p st kp S) : x ≠ st := neW s.x s.st (by intro h; cases h)
theorem StAt.xk (s : StAt O C x dx p st kp S) : x ≠ kp := neW s.x s.kp (by intro h; cases h)
theorem StAt.ps (s : StAt O C x dx p st kp S) : p ≠ st := neW s.p s.st (by intro h; cases h)
theorem StAt.pk (s : StAt O C x dx p st kp S) : p ≠ kp := neW s.p s.kp (by intro h; cases h)
noncomputable def But (O O' : OM) (x p : Addr) : Prop := ∀ b, b ≠ x → b ≠ p → O' b = O b
theorem But.refl : But O O x p := fun _ _ _ => rfl
theorem But.trans {O1 O2 : OM} (a : But O O1 x p) (b : But O1 O2 x p) : But O O2 x p := fun c h1 h2 => (b c h1 h2).trans (a c h1 h2)
theorem But.up {o : OO} : But O (updO O p o) x p := fun _ _ h => zf h
theorem StAt.pic (s : StAt O C x dx p st kp S) {f : PF} : StAt (updO O p (.grid (genG S.h S.w f))) C x dx p st kp { S with pic := f } :=
  ⟨by rw [zf s.xp]; exact s.x, zc, by rw [zf (Ne.symm s.ps)]; exact s.st, by rw [zf (Ne.symm s.pk)]; exact s.kp⟩
theorem StAt.of (s : StAt O C x dx p st kp S) {S' : ST} (hx : O' x = some (.ins C dx (fldW p st kp S'))) (hp : O' p = some (.grid (genG S'.h S'.w S'.pic))) (hw : S'.w = S.w) (b : But O O' x p) (hst : S'.stops = S.stops := by rfl) (hk : S'.kept = S.kept := by rfl) : StAt O' C x dx p st kp S' :=
  ⟨hx, hp, by rw [b _ (Ne.symm s.xs) (Ne.symm s.ps), hst]; exact s.st, by rw [b _ (Ne.symm s.xk) (Ne.symm s.pk), hk]; exact s.kp⟩
theorem StAt.keep (s : StAt O C x dx p st kp S) {y z : Addr} (b : But O O' y z) (h1 : x ≠ y) (h2 : x ≠ z) (h3 : p ≠ y) (h4 : p ≠ z) (h5 : st ≠ y) (h6 : st ≠ z) (h7 : kp ≠ y) (h8 : kp ≠ z) : StAt O' C x dx p st kp S :=
  ⟨by rw [b _ h1 h2]; exact s.x, by rw [b _ h3 h4]; exact s.p, by rw [b _ h5 h6]; exact s.st, by rw [b _ h7 h8]; exact s.kp⟩
end
structure Bds (S : ST) : Prop where
  w1 : 1 ≤ S.w
  w2 : S.w ≤ 24
  h1 : 1 ≤ S.h
  h2 : S.h ≤ 12
  r0 : 0 ≤ S.row
  r1 : S.row < S.h
  c0 : 0 ≤ S.col
  c1 : S.col < S.w
  t0 : 0 ≤ S.top
  tb : S.top ≤ S.bottom
  b1 : S.bottom < S.h
  l0 : 0 ≤ S.left
  lr : S.left ≤ S.right
  rr : S.right < S.w
  i0 : 0 ≤ S.ink
  i1 : S.ink < 512
end L2
namespace L2
open PySem PySem.Spec PyProof.Rows
theorem X7 {p q : Prop} [Decidable p] [Decidable q] {a b : Prop} : (if p then (if q then a else b) else b) = (if p ∧ q then a else b) := by
  by_cases hp : p <;> by_cases hq : q <;> simp [hp, hq]
noncomputable def Ux : PyData → Prop
  | .none => True
  | .int i => 0 ≤ i ∧ i ≤ 1000000
  | _ => False
theorem Ux.cs {n : PyData} (h : Ux n) : n = .none ∨ ∃ i, n = .int i ∧ 0 ≤ i ∧ i ≤ 1000000 := by
  cases n <;> first | exact .inl rfl | exact h.elim | exact .inr ⟨_, rfl, h.1, h.2⟩
noncomputable def vk : SpW := fun ws O R => ∃ ns : List Int, ∃ k : Nat, ws = [.d (.list (ns.map .int)), .d (.int k)] ∧ R (.d (.int (ns.getD k 0))) O
noncomputable def eL (S : ST) : Int := if S.left ≤ S.col then S.left else 0
noncomputable def eR (S : ST) : Int := if S.col ≤ S.right then S.right else S.w - 1
noncomputable def Qm (i : Int) : Cel := (Str.ofString " ", i)
noncomputable def atF (f : PF) (i j : Int) : Cel := f i.toNat j.toNat
noncomputable def mvP (f : PF) (ink t b l r dn ac : Int) : PF := fun i j =>
  if t ≤ (i : Int) ∧ (i : Int) ≤ b ∧ l ≤ (j : Int) ∧ (j : Int) ≤ r then (if t ≤ i + dn ∧ i + dn ≤ b ∧ l ≤ j + ac ∧ j + ac ≤ r then atF f (i + dn) (j + ac) else Qm ink) else f i j
noncomputable def mvS (t b l r dn ac : Int) (S : ST) : ST := { S with pic := mvP S.pic S.ink t b l r dn ac }
noncomputable def Uy (s : Int) (S : ST) : ST := { mvS S.row S.row S.col (eR S) 0 s S with late := false }
noncomputable def Qn (S : ST) : ST := { S with col := eL S, late := false }
end L2
namespace L2
open PySem PySem.Spec PyProof.Rows
end L2
namespace L2
open PySem PySem.Spec PyProof.Rows
end L2
namespace L2
open PySem PySem.Spec PyProof.Rows
noncomputable abbrev Rw6 := List Cel
noncomputable def rowC (r : Rw6) : PyData := .list (r.map zw)
noncomputable def Uz (c : Cel) : Prop := ∃ k, 32 ≤ k ∧ k ≤ 126 ∧ c.1 = ⟨#[k]⟩
noncomputable def okR (r : Rw6) : Prop := ∀ c ∈ r, Uz c
noncomputable def ua : SpW := fun ws O R => ∃ ns : List Int, ∃ k : Nat, ws = [.d (.list (ns.map .int)), .d (.int k)] ∧ k ≤ 100 ∧ ∀ n : Int, 0 ≤ n → n < 2147483629 → R (.d (.int n)) O
noncomputable def uW : SpW := fun ws O R => ∃ n : Int, ws = [.d (.int n)] ∧ 0 ≤ n ∧ ∀ i : Int, 0 ≤ i → i < 512 → R (.d (.int i)) O
noncomputable def x4 : SpW := fun ws O R => ∃ n : Int, ws = [.d (.int n)] ∧ 0 ≤ n ∧ ∀ k : Nat, 32 ≤ k → k ≤ 126 → R (.d (.str ⟨#[k]⟩)) O
noncomputable def Yd : Str := Str.ofString " !\"#$&'()*+,-./0123456789:;<=>?@ABCDEFGHIJKLMNOPQRSTUVWXYZ[\\]^_`"
noncomputable def Ye : Str := Str.ofString "abcdefghijklmnopqrstuvwxyz{|}~"
theorem UA : ∀ k : _root_.Fin 94, ∃ c, 32 ≤ c ∧ c ≤ 126 ∧ atI (Yd ++ Ye).cps.toList ((k.val : Nat) : Int) = some c := by
  have h : ∀ k : _root_.Fin 94, ((atI (Yd ++ Ye).cps.toList ((k.val : Nat) : Int)).map fun c => decide (32 ≤ c ∧ c ≤ 126)) = some true := by decide +kernel
  intro k
  have := h k
  cases e : atI (Yd ++ Ye).cps.toList ((k.val : Nat) : Int) with
  | none => rw [e] at this; cases this
  | some c =>
    rw [e] at this
    have := of_decide_eq_true (Option.some.inj this)
    exact ⟨c, this.1, this.2, rfl⟩
end L2
namespace L2
open PySem PySem.Spec PyProof.Rows
theorem jt {n : Nat} {k : Int} (h0 : 0 ≤ k) (h1 : k < n) : ixN n k = some k.toNat := by
  unfold ixN
  rw [if_pos h0, if_pos h1]
end L2
namespace L2
open PySem PySem.Spec PyProof.Rows
noncomputable abbrev T3 := Nat × Nat × Int
noncomputable def Cov (f : Nat → Int) : Nat → List T3 → Nat → Prop
  | a, [], b => a = b
  | a, t :: l, b => t.1 = a ∧ t.1 < t.2.1 ∧ (∀ j, t.1 ≤ j → j < t.2.1 → f j = t.2.2) ∧ Cov f t.2.1 l b
theorem Cov.le {f : Nat → Int} : ∀ {l : List T3} {a b : Nat}, Cov f a l b → a + l.length ≤ b
  | [], a, b, h => by cases h; exact Nat.le_refl _
  | t :: l, a, b, ⟨h1, h2, h3, h4⟩ => by have := h4.le; simp only [List.length_cons]; omega
theorem Cov.mem {f : Nat → Int} : ∀ {l : List T3} {a b : Nat}, Cov f a l b → ∀ t ∈ l, a ≤ t.1 ∧ t.1 < t.2.1 ∧ t.2.1 ≤ b ∧ ∀ j, t.1 ≤ j → j < t.2.1 → f j = t.2.2
  | t :: l, a, b, ⟨h1, h2, h3, h4⟩, u, hu => by
    have := h4.le
    rcases List.mem_cons.mp hu with rfl | hu
    · exact ⟨by omega, h2, by omega, h3⟩
    · obtain ⟨q1, q2, q3, q4⟩ := h4.mem u hu
      exact ⟨by omega, q2, q3, q4⟩
end L2
namespace L2
open PySem PySem.Spec PyProof.Rows
theorem uX {T1 T2 T3 U : TSW} {D : EndsW} {ρ : WS} {O : OM} (J : WS → OM → Prop) (ht : ∀ R : WS → OM → Prop, (∀ ρ' O', J ρ' O' → R ρ' O') → yK T1 (yK T2 T3) { D with nx := R } ρ O) (hu : ∀ ρ' O', J ρ' O' → U D ρ' O') : yK T1 (yK T2 (yK T3 U)) D ρ O := ht (U D) hu
theorem Y6 {S : ST} (h : Bds S) : 0 ≤ eL S ∧ eL S < S.w := by
  have := h.l0; have := h.lr; have := h.rr; have := h.w1
  unfold eL; split <;> omega
theorem Bds.left {S : ST} (h : Bds S) : Bds (Qn S) := { h with c0 := (Y6 h).1, c1 := (Y6 h).2 }
theorem Bds.cells {S : ST} {s : Int} (h : Bds S) : Bds (Uy s S) := { h with }
end L2
namespace L2
open PySem PySem.Spec PyProof.Rows
end L2
namespace L2
open PySem
end L2
namespace L2
open PySem PySem.Spec PyProof.Rows
end L2
namespace L2
open PySem PySem.Spec PyProof.Rows
section
variable {X : Cx} {K : PySem.W.Frag}
end
end L2
namespace L2
open PySem PySem.Spec PyProof.Rows
structure OwnAt (O : OM) (d q : Addr) (S : ST) : Prop where
  d : O d = some (.dK (ownW q S))
  q : O q = some (.grid (genG S.h S.w S.pic))
noncomputable def PicOk (S : ST) : Prop := ∀ i j, i < S.h → j < S.w → okC (S.pic i j)
noncomputable def InWin (S : ST) : Prop := S.home = true → S.top ≤ S.row ∧ S.row ≤ S.bottom ∧ S.left ≤ S.col ∧ S.col ≤ S.right
section
variable {O O' : OM} {d q : Addr} {S : ST}
theorem OwnAt.dq (s : OwnAt O d q S) : d ≠ q := neW s.d s.q (by intro h; cases h)
theorem OwnAt.pic (s : OwnAt O d q S) {f : PF} : OwnAt (updO O q (.grid (genG S.h S.w f))) d q { S with pic := f } :=
  ⟨by rw [zf s.dq]; exact s.d, zc⟩
theorem OwnAt.keep (s : OwnAt O d q S) {y z : Addr} (b : But O O' y z) (h1 : d ≠ y) (h2 : d ≠ z) (h3 : q ≠ y) (h4 : q ≠ z) : OwnAt O' d q S :=
  ⟨by rw [b _ h1 h2]; exact s.d, by rw [b _ h3 h4]; exact s.q⟩
end
structure Both (O : OM) (C x dx p st kp d q : Addr) (S S' : ST) : Prop where
  s : StAt O C x dx p st kp S
  o : OwnAt O d q S'
  ds : d ≠ st
  pq : p ≠ q
section
variable {O O' : OM} {C x dx p st kp d q : Addr} {S S' S1 : ST}
theorem Both.dx' (b : Both O C x dx p st kp d q S S') : d ≠ x := neW b.o.d b.s.x (by intro h; cases h)
theorem Both.dp (b : Both O C x dx p st kp d q S S') : d ≠ p := neW b.o.d b.s.p (by intro h; cases h)
theorem Both.dk (b : Both O C x dx p st kp d q S S') : d ≠ kp := neW b.o.d b.s.kp (by intro h; cases h)
theorem Both.qx (b : Both O C x dx p st kp d q S S') : q ≠ x := neW b.o.q b.s.x (by intro h; cases h)
theorem Both.qs (b : Both O C x dx p st kp d q S S') : q ≠ st := neW b.o.q b.s.st (by intro h; cases h)
theorem Both.st' (b : Both O C x dx p st kp d q S S') (h : StAt O' C x dx p st kp S1) (k : But O O' x p) : Both O' C x dx p st kp d q S1 S' :=
  ⟨h, b.o.keep k b.dx' b.dp b.qx (Ne.symm b.pq), b.ds, b.pq⟩
end
noncomputable def Qo (S : ST) : Prop := PicOk S ∧ SeqAt.shaped S.last = true ∧ PyData.eqv S.last S.last = true
structure Drawn (S : ST) : Prop where
  b : Bds S
  ok : PicOk S
  win : InWin S
  last : S.last = .none ∨ ∃ c, S.last = .str c ∧ S.pic S.row.toNat S.col.toNat = (c, S.ink)
  late : S.late = true → S.col = eR S ∧ S.last ≠ .none
theorem UB {c : Str} (h : PyData.strOk c = true) : SeqAt.shaped (.str c) = true ∧ PyData.eqv (.str c) (.str c) = true :=
  ⟨by simp [SeqAt.shaped, PyData.canLay0, PyData.depth, h], by simp [PyData.eqv]⟩
theorem Drawn.all {S : ST} (h : Drawn S) : Qo S := by
  refine ⟨h.ok, ?_⟩
  rcases h.last with e | ⟨c, e, e2⟩
  · rw [e]; exact ⟨rfl, rfl⟩
  · have h0 := h.ok S.row.toNat S.col.toNat (by have := h.b.r0; have := h.b.r1; omega) (by have := h.b.c0; have := h.b.c1; omega)
    rw [e2] at h0
    rw [e]
    exact UB h0
end L2
namespace L2
end L2
namespace L2
open PySem PySem.Spec PyProof.Rows
noncomputable def Old (O O' : OM) : Prop := ∀ b, O b ≠ none → O' b = O b
theorem Old.refl {O : OM} : Old O O := fun _ _ => rfl
theorem Old.upd {O O' : OM} {a : Addr} {o : OO} (h : Old O O') (ha : O a = none) : Old O (updO O' a o) := fun b hb => by
  rw [zf (fun e => by rw [e] at hb; exact hb ha)]; exact h b hb
theorem Old.new {O O' : OM} {a : Addr} (h : Old O O') (ha : O' a = none) : O a = none := by
  cases e : O a with
  | none => rfl
  | some o => rw [h a (by rw [e]; simp)] at ha; rw [ha] at e; cases e
section
variable {q : Addr} {S : ST} {a b : Int} {u : Bool} {l : PyData}
end
end L2
namespace L2
open PySem PySem.Spec PyProof.Rows
theorem PicOk.set {S : ST} {i j : Nat} {c : Str} {k : Int} (h : PicOk S) (hc : PyData.strOk c = true) : PicOk { S with pic := setF S.pic i j (c, k) } := by
  intro x y hx hy
  show okC (setF S.pic i j (c, k) x y)
  unfold setF
  split
  · exact hc
  · exact h x y hx hy
end L2
namespace L2
open PySem PySem.Spec PyProof.Rows
end L2
namespace L2
open PySem PySem.Spec PyProof.Rows
end L2
namespace L2
open PySem PySem.Spec PyProof.Rows
noncomputable def sLaw5 : SpW := fun ws O R => ∃ ns : List Int, ws = [.d (.list (ns.map .int))] ∧ (∀ n ∈ ns, Bt 1048580 n) ∧ ns.length ≤ 63 ∧ ∀ O', R (.d (.bool true)) O'
end L2
namespace L2
open PySem PySem.Spec PyProof.Rows
theorem Old.del {O O' : OM} {a : Addr} (h : Old O O') (ha : O a = none) : Old O (L2.del O' a) := fun b hb => by
  rw [yi (O := O') (fun e => hb (by rw [e]; exact ha))]
  exact h b hb
noncomputable def noS : Str := ⟨#[]⟩
end L2
namespace L2
open PySem PySem.Spec PyProof.Rows
end L2
namespace L2
open PySem PySem.Spec PyProof.Rows
end L2
namespace L2
open PySem PySem.Spec PyProof.Rows
noncomputable def UC (x : Str) : It :=
  ⟨fun i _ => i < x.cps.size, fun i H v H' => ∃ t c, v = .ref t ∧ H t = none ∧ x.cps[i]? = some c ∧ H' = upd H t (.tup [.int i, .str ⟨#[c]⟩]), fun i _ => i = x.cps.size⟩
theorem j8 {P : Program} {w : World} {K : PySem.W.Frag} {es : List Expr} {k : Nat} {pos : Pos} (x : Str) (tk : Tok) (e it : Addr) (hne : e ≠ it) :
    Turn P w K (.Tuple es k pos) (UC x) [e, it] e (fun i h => (∃ old, IsEnum h e it (i : Nat) old) ∧ h.IsStrIter it "str_ascii_iterator" x tk i) where
  mem := by simp
  obj := fun i h st b hb => by
    obtain ⟨⟨old, he⟩, o, e1, c, d⟩ := st
    have hb' : b = e ∨ b = it := by simpa using hb
    rcases hb' with rfl | rfl
    · exact ⟨_, he, fun v z => by
        have z' : Data.fields _ = Data.cell v := z
        cases z'⟩
    · exact ⟨o, e1, fun v z => by rw [d] at z; cases z⟩
  keep := fun i h h' st k => ⟨st.1.elim fun old he => ⟨old, k e (by simp) _ he⟩, let ⟨o, ho, r⟩ := st.2; ⟨o, k it (by simp) o ho, r⟩⟩
  item := by
    intro X hP hw hK hc i pins s σ H E I hf st hg
    subst hP hw hK
    obtain ⟨⟨old, he⟩, hit⟩ := st
    have hi : i < x.cps.size := hg
    refine wpAny_pyNext_enum_itemD (St := fun i h => h.IsStrIter it "str_ascii_iterator" x tk i) (Draws.strAscii (A := X.A.in1) (I.ok.hd hc) it x tk) he hit hi hne (fun z => hne (List.mem_singleton.mp z)) fun v h' tk' hv he' hit' ht hsz kk => ?_
    obtain ⟨c, u, hcc, rfl⟩ := hv
    refine ⟨_, rfl, wpAny_letOwnedTupleGo_enum he' fun h2 he2 sb => ?_⟩
    have hn := I.hok.fresh (Nat.le_refl s.heap.objs.size)
    have I1 : Inv X pins σ (upd H s.heap.objs.size (.tup [.int i, .str ⟨#[c]⟩])) { s with heap := s.heap.push { cls := .type "tuple", data := .seq [Value.int i tk', Value.str ⟨#[c]⟩ u].toArray }, toks := tk' + 1 } :=
      I.laid (fun b o e => Heap.get?_push_of_some _ e) (Nat.le_refl _) ⟨by show 2 ≤ sizeLine; decide, [Value.int i tk', Value.str ⟨#[c]⟩ u], .cons ⟨_, rfl⟩ (.cons ⟨_, rfl⟩ .nil), IsTup.new s.heap _⟩
    have lt : ∀ b ∈ [e, it], b ≠ s.heap.objs.size := fun b hb => by
      have hb' : b = e ∨ b = it := by simpa using hb
      rcases hb' with rfl | rfl
      · exact Nat.ne_of_lt (Heap.lt_size he)
      · obtain ⟨o, e1, _⟩ := hit
        exact Nat.ne_of_lt (Heap.lt_size e1)
    have nt : ∀ b ∈ [e, it], upd H s.heap.objs.size (.tup [.int i, .str ⟨#[c]⟩]) b = none := fun b hb => by rw [zb (lt b hb)]; exact (hf b hb).1
    have I2 := I1.turnedL (h' := h2) (t' := tk' + 1) (fp := [e, it]) (fun b o hb q => by
      have h1 : b ≠ e := fun z => hb (by simp [z])
      have h2' : b ≠ it := fun z => hb (by simp [z])
      by_cases hbz : b = s.heap.objs.size
      · subst hbz
        have q' : (s.heap.push { cls := .type "tuple", data := .seq #[Value.int i tk', Value.str ⟨#[c]⟩ u] }).get? s.heap.objs.size = some o := q
        rw [Heap.get?_push_size s.heap (o := { cls := .type "tuple", data := .seq #[Value.int i tk', Value.str ⟨#[c]⟩ u] }) rfl] at q'
        exact (sb.2 _ h1).trans (ht.trans q')
      · have q' : (s.heap.push { cls := .type "tuple", data := .seq #[Value.int i tk', Value.str ⟨#[c]⟩ u] }).get? b = some o := q
        rw [Heap.get?_push_ne _ _ _ hbz] at q'
        exact (sb.2 b h1).trans (kk b o h1 h2' q')) fun b hb => ⟨nt b hb, (hf b hb).2⟩
    have ei : ((i : Int) + 1) = (((i + 1 : Nat)) : Int) := by omega
    refine ⟨.ref s.heap.objs.size, _, I2, rfl, ⟨_, c, rfl, hn, hcc, rfl⟩, ⟨⟨_, ei ▸ he2⟩, let ⟨o, ho, r⟩ := hit'; ⟨o, (sb.2 it (Ne.symm hne)).trans ho, r⟩⟩, nt⟩
  done := by
    intro X hP hw hK hc i pins s σ H E I hf st hg
    subst hP hw hK
    obtain ⟨⟨old, he⟩, hit⟩ := st
    have hi : i = x.cps.size := hg
    subst hi
    obtain ⟨f0, f1, f2, f3, f4, f5⟩ := hf it (by simp)
    exact wpAny_pyNext_enum_endD (St := fun i h => h.IsStrIter it "str_ascii_iterator" x tk i) (Draws.strAscii (A := X.A.in1) (I.ok.hd hc) it x tk) he hit fun h' eb => ⟨rfl, I.turned (t' := s.toks) (fun b o hb e => eb b o hb e) f0 f1 f3 f4 f5⟩
  self := fun _ _ _ _ _ st h => st.1.elim fun old he => wpAny_pyIter_enum he h
noncomputable def Zh (ta : TA) : TI := fun σ H R => ta σ H fun vs H1 => ∃ x, vs = [.str x] ∧ x.cps.all (· < 128) = true ∧ R (UC x) H1
section
variable {X : Cx} {K : PySem.W.Frag}
theorem Yf {es : List Expr} {k : Nat} {tp : Pos} {l : Expr} {ta : TA} {p pos : Pos} (hg : Gl X "enumerate") (hm : X.mg "enumerate" = none) (ha : PA X [l] ta) (hs : starEach [l] X.env = [(false, eval l X.env)] := by rfl) :
    PI X (.Tuple es k tp) (.Call (.Name "enumerate" p) [l] [] pos) (Zh ta) := by
  intro pins s σ H R I h
  refine Call_ (xW I hg hm boot_enumerate (PyProof.Rows.callWith_type1 (thn (ha pos pins s σ H _ I h) fun us s1 ⟨vs, H1, I1, r1, q1⟩ => ?_) hs rfl))
  obtain ⟨x, e, hx, q⟩ := q1
  subst e
  cases r1 with
  | cons r rr =>
    cases rr
    obtain ⟨tk, rfl⟩ := r
    refine call_enumerate_str fun h' hE hI hsz hk => wpAny_pyIter_enum hE ?_
    have hI' : h'.IsStrIter s1.heap.objs.size "str_ascii_iterator" x tk 0 := by simpa [strIterType, hx] using hI
    refine ⟨s1.heap.objs.size + 1, [s1.heap.objs.size + 1, s1.heap.objs.size], _, _, H1, rfl, I1.kept (t' := s1.toks) hk, j8 x tk _ _ (Nat.succ_ne_self _), ⟨⟨_, hE⟩, hI'⟩, fun b hb => ?_, q⟩
    have hb' : b = s1.heap.objs.size + 1 ∨ b = s1.heap.objs.size := by simpa using hb
    rcases hb' with rfl | rfl
    · exact I1.fpOk (Nat.le_succ _) (I1.hok.fresh (Nat.le_succ _))
    · exact I1.fpOk (Nat.le_refl _) (I1.hok.fresh (Nat.le_refl _))
noncomputable def ub (x : Str) : List W := (List.range x.cps.size).zipWith (fun (i : Nat) (c : Nat) => W.d (.tuple [.int i, .str ⟨#[c]⟩])) x.cps.toList
noncomputable def Zi (T : TAW) : TIW := fun ρ O R => T ρ O fun ws O1 => ∃ x, ws = [.d (.str x)] ∧ x.cps.all (· < 128) = true ∧ R (ub x) (fun _ => True) O1
theorem uJ (x : Str) : (ub x).length = x.cps.size := by simp [ub]
theorem j9 {t : TA} {T : TAW} (h : yn K t T) : xG K (Zh t) (Zi T) := by
  intro Γ O H ρ σ S r Q R hT k
  refine h _ _ _ _ _ S r _ _ hT fun Γ1 O1 H1 ws vs l1 S1 r1 h1 => ?_
  obtain ⟨x, rfl, ha, h1⟩ := h1
  cases r1 with
  | cons rx t =>
    cases t
    refine ⟨x, by rw [show _ = V.str x from rx], ha, k _ _ _ _ _ _ l1 S1 (fun i Γ' O' H' hz hg S' e' => ⟨fun w' hw => ?_, fun hi => ?_⟩) h1⟩
    · unfold ub at hw
      rw [List.getElem?_zipWith] at hw
      cases hr : (List.range x.cps.size)[i]? with
      | none => rw [hr] at hw; cases hw
      | some j =>
        rw [hr] at hw
        cases hdi : x.cps.toList[i]? with
        | none => rw [hdi] at hw; cases hw
        | some c =>
          rw [hdi] at hw
          cases hw
          obtain ⟨hi, hj⟩ := List.getElem?_eq_some_iff.mp hr
          simp at hi hj
          subst hj
          refine ⟨hi, fun y H2 ⟨t, c', e1, e2, e3, e4⟩ => ?_⟩
          have : c' = c := by
            have h3 : x.cps.toList[i]? = some c' := by rw [Array.getElem?_toList]; exact e3
            rw [hdi] at h3; cases h3; rfl
          subst this e1 e4
          obtain ⟨Γ2, l2, S2, r2⟩ := qt S' (ds := [.int i, .str ⟨#[c']⟩]) (vs := [.int i, .str ⟨#[c']⟩]) ⟨_, _, rfl, rfl, _, _, rfl, rfl, rfl⟩ e2
          exact ⟨Γ2, l2, S2, r2⟩
    · show i = x.cps.size
      rw [hi, uJ]
end
end L2
namespace L2
open PySem PySem.Spec PyProof.Rows
theorem Qp {i j : Nat} {a b : PyData} {ρ : WS} {O : OM} {R : WS → OM → Prop} (h : R ((ρ.set i (some (.d a))).set j (some (.d b))) O) (hi : i < ρ.length) (hj : j < ρ.length) : jX 2 (v1 (vj i) (v1 (vj j) jW)) (.d (.tuple [a, b])) ρ O R := by
  simp [jX, v1, vj, jW, z0, hi, hj]
  exact ⟨_, _, ⟨rfl, rfl⟩, _, _, rfl, rfl, h⟩
theorem qC : ∀ (cs : List Nat) (acc : Array Nat), ((cs.map fun c => (⟨#[c]⟩ : Str)).foldl (fun acc p => acc ++ noS.cps ++ p.cps) acc).toList = acc.toList ++ cs
  | [], acc => by simp
  | c :: cs, acc => by
    rw [List.map_cons, List.foldl_cons, qC cs]
    simp [noS]
theorem Yg (cs : List Nat) : Txt.join noS (cs.map fun c => ⟨#[c]⟩) = ⟨cs.toArray⟩ := by
  show Builtin.Str.glued _ _ = _
  unfold Builtin.Str.glued
  congr 1
  apply Array.ext'
  cases cs with
  | nil => rfl
  | cons c cs =>
    show ((cs.map fun c => (⟨#[c]⟩ : Str)).foldl (fun acc p => acc ++ noS.cps ++ p.cps) #[c]).toList = _
    rw [qC]
    rfl
end L2
namespace L2
open PySem PySem.Spec PyProof.Rows
section
variable {X : Cx} {K : PySem.W.Frag}
end
end L2
namespace L2
open PySem PySem.Spec PyProof.Rows
section
variable {X : Cx} {k : Nat} {sp : Sp} {C : Addr} {x : Str} {p pos : Pos}
end
noncomputable abbrev sgS (c : Nat) : Str := ⟨#[c]⟩
noncomputable abbrev sgW (c : Nat) : W := .d (.str (sgS c))
noncomputable def Y7 (c : Nat) : Prop := (97 ≤ c ∧ c ≤ 122) ∨ (65 ≤ c ∧ c ≤ 90)
noncomputable def Y8 (c : Nat) : Prop := 48 ≤ c ∧ c ≤ 57
instance (c : Nat) : Decidable (Y7 c) := by unfold Y7; infer_instance
instance (c : Nat) : Decidable (Y8 c) := by unfold Y8; infer_instance
structure RdAt (C : Addr) (O : OM) (x dx p : Addr) (b : List Nat) : Prop where
  x : O x = some (.ins C dx [(Str.ofString "begun", .own p)])
  p : O p = some (.lst (b.map sgW))
theorem RdAt.ne {C : Addr} {O : OM} {x dx p : Addr} {b : List Nat} (h : RdAt C O x dx p b) : x ≠ p := fun e => by
  have := h.x; rw [e, h.p] at this; cases this
end L2
namespace L2
open PySem PySem.Spec PyProof.Rows
section
variable {K : PySem.W.Frag}
noncomputable def UD (wi : TI) (n : Nat) (js : List Nat) (g : TG) (tt : TT) (te : TE) : TE := tLc wi n js g tt te
section
variable {X : Cx} {N : List Str} {n : Nat} {js : List Nat} {scope : Scope} {cl : List (Str × Addr)} {elt tg iter : Expr} {ifs : List Expr} {pos : Pos} {wi : TI} {g : TG} {tt : TT} {te : TE}
theorem UE (L : LcOk X N n js scope cl) (hc : X.calm = true) (hi : PI X tg iter wi)
    (hg : ∀ C s0 H0 fp0, PG (zA X N scope cl C s0 H0 fp0) tg g) (ht : ∀ C s0 H0 fp0, PTs (zA X N scope cl C s0 H0 fp0) ifs tt) (he : ∀ C s0 H0 fp0, PE (zA X N scope cl C s0 H0 fp0) elt te)
    (hs : ∀ x, foldedSetIterable iter X.env x = pure x := by intro _; rfl) : PE X (.ListComp elt [⟨tg, iter, ifs, 0⟩] scope pos) (UD wi n js g tt te) := jL L hc hi hg ht he hs
end
noncomputable def UF (Wi : TIW) (n : Nat) (js : List Nat) (G : TGW) (T : TTW) (E : TEW) : TEW := fun ρ O R => Wi ρ O fun ws keep O1 => keep O1 ∧ ws.length ≤ 1000000 ∧ ∃ Pd : PyData → Prop,
  (∀ w ∈ ws, ∀ us : WS, us.length = n → v2 G T E n (zz js ρ) w (us ++ zz js ρ) O1 fun y O2 => O2 = O1 ∧ ∃ d, y = some (.d d) ∧ Pd d) ∧ ∀ ds : List PyData, ds.length = ws.length → (∀ d ∈ ds, Pd d) → R (.d (.list ds)) O1
theorem X8 {wi : TI} {Wi : TIW} {n : Nat} {js : List Nat} {g : TG} {G : TGW} {tt : TT} {T : TTW} {te : TE} {E : TEW} (hi : xG K wi Wi) (hg : RefG K g G) (ht : ym K tt T) (he : zl K te E) : zl K (UD wi n js g tt te) (UF Wi n js G T E) := by
  intro Γ O H ρ σ S r Q R hT k
  refine hi _ _ _ _ _ S r _ _ hT fun Γ1 O1 H1 J ws keep l1 S1 ok h1 => ?_
  obtain ⟨hk, hlen, Pd, hF, hR⟩ := h1
  intro D hD
  have hFD : Γ1.F D = none := S1.f.free hD
  have r1 := y8 (r.mono l1) n js
  refine ⟨fun i m σ' H' => i ≤ ws.length ∧ m = ws.length - i ∧ ∃ Γ' ρ' vs, Same Γ1.Z Γ'.Z ∧ (∀ a rs, Γ1.G a = some rs → ∃ more, Γ'.G a = some (rs ++ more)) ∧ Γ'.F = upd Γ1.F D (.lst vs) ∧ Sim K Γ' O1 H' ∧ relR K Γ' ρ' σ' ∧
    ρ'.length = n + (zz js ρ).length ∧ ρ'.drop n = zz js ρ ∧ ∃ ds, ds.length = i ∧ (∀ d ∈ ds, Pd d) ∧ Reps K Γ'.Z ds vs, ⟨_, Nat.zero_le _, rfl, _, _, [], Same.refl _, fun a rs h => ⟨[], by rw [List.append_nil]; exact h⟩, rfl, S1.frameNew hD (.lst []), r1.setF, by simp, by simp, [], rfl, fun d h => (by cases h), rfl⟩, ?_⟩
  rintro i m σ' H' ⟨hi, rfl, Γ', ρ', vs, z', g', f', S', r', n1, n2, ds, hdl, hdp, rp⟩
  obtain ⟨ok1, ok2⟩ := ok i Γ' O1 H' z' g' S' hk
  have hvl : vs.length ≤ i := by
    rw [← Reps.length rp]
    omega
  by_cases hlt : i < ws.length
  · obtain ⟨go, y⟩ := ok1 _ (List.getElem?_eq_getElem hlt)
    refine .inr ⟨go, fun σ2 H2 => ∃ Γ2 ρ2 vs2, Same Γ1.Z Γ2.Z ∧ (∀ a rs, Γ1.G a = some rs → ∃ more, Γ2.G a = some (rs ++ more)) ∧ Γ2.F = upd Γ1.F D (.lst vs2) ∧ Sim K Γ2 O1 H2 ∧ relR K Γ2 ρ2 σ2 ∧
      ρ2.length = n + (zz js ρ).length ∧ ρ2.drop n = zz js ρ ∧ ∃ ds, ds.length = i + 1 ∧ (∀ d ∈ ds, Pd d) ∧ Reps K Γ2.Z ds vs2, fun σ2 H2 h => ⟨ws.length - (i + 1), by omega, hlt, rfl, h⟩, fun x H2 hy => ?_⟩
    obtain ⟨Γ2, l2, S2, rx⟩ := y x H2 hy
    obtain ⟨us, hus, rfl⟩ := xH n1 n2
    have et : ws.take (i + 1) = ws.take i ++ [ws[i]] := (List.take_append_getElem hlt).symm
    refine hg _ _ _ _ _ _ _ S2 (r'.mono l2) rx _ _ (hF _ (List.getElem_mem hlt) us hus) fun Γ3 O3 H3 ρ3 σ3 l3 S3 r3 h3 => ?_
    obtain ⟨⟨m1, m2⟩, h3⟩ := h3
    refine ht _ _ _ _ _ S3 r3 _ _ h3 fun Γ4 O4 H4 b l4 S4 h4 => ?_
    have l24 := (l2.trans l3).trans l4
    have up : ∀ Γ5, Le Γ' Γ5 → Same Γ1.Z Γ5.Z ∧ (∀ a rs, Γ1.G a = some rs → ∃ more, Γ5.G a = some (rs ++ more)) := fun Γ5 l => ⟨z'.trans l.z, fun a rs h => by
      obtain ⟨m, e⟩ := g' a rs h
      obtain ⟨m2, e2⟩ := l.g a _ e
      exact ⟨m ++ m2, by rw [← List.append_assoc]; exact e2⟩⟩
    cases b with
    | true =>
      rw [if_pos rfl] at h4 ⊢
      refine he _ _ _ _ _ S4 (r3.mono l4) _ _ h4 fun Γ5 O5 H5 w5 v5 l5 S5 r5 h5 => ?_
      obtain ⟨rfl, h5⟩ := h5
      have l25 := l24.trans l5
      obtain ⟨d, hy5, hd⟩ := h5
      cases hy5
      have f5 : Γ5.F = upd Γ1.F D (.lst vs) := by rw [l25.f, f']
      have fD : Γ5.F D = some (.lst vs) := by rw [f5, zh]
      refine ⟨vs, S5.f _ _ fD, (by rw [sizeLine_eq]; omega), ?_⟩
      obtain ⟨u1, u2⟩ := up Γ5 l25
      refine ⟨⟨Γ5.Z, Γ5.G, upd Γ5.F D (.lst (vs ++ [v5]))⟩, ρ3, vs ++ [v5], u1, u2, ?_, S5.framePut fD _, ((r3.mono l4).mono l5).setF, m1, m2, ds ++ [d], ?_, ?_, ?_⟩
      · show upd Γ5.F D _ = _
        rw [f5, vc]
      · simp [hdl]
      · intro e he
        rcases List.mem_append.mp he with he | he
        · exact hdp e he
        · cases List.mem_singleton.mp he; exact hd
      · exact Reps.snoc (Reps.same l25.z _ _ rp) r5
    | false =>
      rw [if_neg (by decide)] at h4
      obtain ⟨_, d, h4, _⟩ := h4
      cases h4
  · have hi2 : i = ws.length := by omega
    subst hi2
    refine .inl ⟨ok2 rfl, ?_⟩
    obtain ⟨q1, q2, q3⟩ := S'.unframe f' hFD rp
    exact k ⟨upd Γ'.Z D (.lst vs), Γ'.G, Γ1.F⟩ _ _ _ _ (l1.trans ⟨rfl, z'.trans q1, g'⟩) q2 q3 (hR ds hdl hdp)
end
end L2
namespace L2
open PySem PySem.Spec PyProof.Rows
end L2
namespace L2
open PySem PySem.Spec PyProof.Rows
end L2
namespace L2
open PySem PySem.Spec PyProof.Rows
theorem RdAt.old {C : Addr} {O O' : OM} {x dx p : Addr} {b : List Nat} (r : RdAt C O x dx p b) (h : Old O O') : RdAt C O' x dx p b := ⟨by rw [h x (by rw [r.x]; simp)]; exact r.x, by rw [h p (by rw [r.p]; simp)]; exact r.p⟩
end L2
namespace L2
open PySem PySem.Spec PyProof.Rows
end L2
namespace L2
open PySem PySem.Spec PyProof.Rows
section
variable {X : Cx} {K : PySem.W.Frag}
noncomputable def Y9 (K : PySem.W.Frag) : R2 := ZM K
theorem yr (hK : X.K = K) : OpR X (binaryOp .Add) (Y9 K) := qm hK
noncomputable def Xa : R2W := fun x y O R => ∃ ws us, zj O x = some ws ∧ zj O y = some us ∧ ws.length + us.length ≤ 1000000 ∧ ∀ p, O p = none → R (.own p) (updO O p (.lst (ws ++ us)))
theorem UG : RefR K (Y9 K) Xa := by
  rintro Γ O H x y v u S rx ry Q R ⟨ws, us, e1, e2, hl, h⟩ k
  obtain ⟨a, vs, rfl, q1, q2⟩ := zO S rx e1
  obtain ⟨b, zs, rfl, p1, p2⟩ := zO S ry e2
  refine ⟨a, b, vs, zs, rfl, rfl, q1, p1, by rw [← Paired.length q2, ← Paired.length p2, sizeLine_eq]; omega, fun p hp => ?_⟩
  obtain ⟨hO, S'⟩ := xv S (Paired.appP q2 p2) hp
  exact k _ _ _ _ _ (Le.refl _) S' ye (h p hO)
noncomputable def frz (w : W) (O : OM) : Option (PyData × OM) := match w with
  | .d x => some (x, O)
  | .own a => match O a with
    | some (.lst ws) => (zP ws).map fun ds => (.list ds, del O a)
    | _ => none
  | _ => none
noncomputable def frzs : List W → OM → Option (List PyData × OM)
  | [], O => some ([], O)
  | w :: ws, O => match frz w O with
    | some (d, O1) => (frzs ws O1).map fun q => (d :: q.1, q.2)
    | none => none
end
end L2
namespace L2
open PySem PySem.Spec PyProof.Rows
end L2
namespace L2
open PySem PySem.Spec PyProof.Rows
end L2
namespace L2
open PySem PySem.Spec PyProof.Rows
structure Two (C : Addr) (O : OM) (xb db pb : Addr) (bb : List Nat) (xr dr pr : Addr) (br : List Nat) : Prop where
  b : RdAt C O xb db pb bb
  r : RdAt C O xr dr pr br
  nx : xb ≠ xr
  np : pb ≠ pr
section
variable {C : Addr} {O O' : OM} {xb db pb xr dr pr p' q : Addr} {bb br br' bb' : List Nat}
theorem Two.xp (h : Two C O xb db pb bb xr dr pr br) : xb ≠ pr ∧ xr ≠ pb := ⟨fun e => (by have := h.b.x; rw [e, h.r.p] at this; cases this), fun e => (by have := h.r.x; rw [e, h.b.p] at this; cases this)⟩
theorem Two.old (h : Two C O xb db pb bb xr dr pr br) (ho : Old O O') : Two C O' xb db pb bb xr dr pr br := ⟨h.b.old ho, h.r.old ho, h.nx, h.np⟩
noncomputable def Xb (q xb pb xr pr : Addr) : Prop := q ≠ xb ∧ q ≠ pb ∧ q ≠ xr ∧ q ≠ pr
theorem Two.apart (h : Two C O xb db pb bb xr dr pr br) (hq : O q = none) : Xb q xb pb xr pr :=
  ⟨fun e => (by rw [e, h.b.x] at hq; cases hq), fun e => (by rw [e, h.b.p] at hq; cases hq), fun e => (by rw [e, h.r.x] at hq; cases hq), fun e => (by rw [e, h.r.p] at hq; cases hq)⟩
theorem Two.upd (h : Two C O xb db pb bb xr dr pr br) (hq : Xb q xb pb xr pr) (o : OO) : Two C (updO O q o) xb db pb bb xr dr pr br := by
  obtain ⟨q1, q2, q3, q4⟩ := hq
  exact ⟨⟨by rw [zf (Ne.symm q1)]; exact h.b.x, by rw [zf (Ne.symm q2)]; exact h.b.p⟩, ⟨by rw [zf (Ne.symm q3)]; exact h.r.x, by rw [zf (Ne.symm q4)]; exact h.r.p⟩, h.nx, h.np⟩
end
end L2
namespace L2
open PySem PySem.Spec PyProof.Rows
section
variable {K : PySem.W.Frag}
theorem Sim.unframeW {Γ : Gh} {O : OM} {H : Hp} (S : Sim K Γ O H) {a : Addr} {us : List W} {vs : List V} {F : Hp} (hF : Γ.F = upd F a (.lst vs)) (h0 : F a = none) (hr : relWs K Γ us vs) :
    O a = none ∧ Sim K ⟨Γ.Z, Γ.G, F⟩ (updO O a (.lst us)) H := by
  have hFa : Γ.F a = some (.lst vs) := by rw [hF, zh]
  obtain ⟨hz, hO, hrow⟩ := S.fd _ _ hFa
  have kF : ∀ b o, F b = some o → b ≠ a ∧ Γ.F b = some o := fun b o e => by
    have hb : b ≠ a := fun z => by rw [z, h0] at e; cases e
    exact ⟨hb, by rw [hF, zb hb]; exact e⟩
  have k1 : ∀ {x : Addr} {rx : List (List PyData)}, updO O a (.lst us) x = some (.grid rx) → O x = some (.grid rx) := fun {x rx} h => by
    by_cases hx : x = a
    · subst hx; rw [zc] at h; cases h
    · rw [zf hx] at h; exact h
  refine ⟨hO, ⟨S.z, fun b oo e => ?_, S.gd, fun b u e => S.f _ _ (kF b u e).2, fun b oo e hn => ?_, fun b o e => S.fg b o (kF b o e).2, fun b o e => ⟨(S.fd b o (kF b o e).2).1, by rw [zf (kF b o e).1]; exact (S.fd b o (kF b o e).2).2.1, fun c rows rs e1 => (S.fd b o (kF b o e).2).2.2 c rows rs (k1 e1)⟩, fun x y ra rb rs ss r e1 e2 => S.u x y ra rb rs ss r (k1 e1) (k1 e2)⟩⟩
  · by_cases hb : b = a
    · subst hb
      rw [zc] at e
      cases e
      exact ⟨hz, vs, S.f _ _ hFa, Paired.mapP hr fun _ _ z => z.setF⟩
    · rw [zf hb] at e
      obtain ⟨q1, q2⟩ := S.o _ _ e
      refine ⟨q1, (q2.keep (Le.refl _) rfl rfl fun rs r hg ⟨rows, hrw⟩ hm => ⟨rfl, rfl, ?_⟩).setF⟩
      subst hrw
      exact zf (fun z => hrow b rows rs e hg (by rw [← z]; exact hm))
  · by_cases hb : b = a
    · rw [hb]; exact S.fg _ _ hFa
    · rw [zf hb] at e; exact S.gn b oo e hn
noncomputable def Yh (wi : TI) (n : Nat) (js : List Nat) (g : TG) (tt : TT) (te : TE) : TE := tLc wi n js g tt te
section
variable {X : Cx} {N : List Str} {n : Nat} {js : List Nat} {scope : Scope} {cl : List (Str × Addr)} {elt tg iter : Expr} {ifs : List Expr} {pos : Pos} {wi : TI} {g : TG} {tt : TT} {te : TE}
theorem xy (L : LcOk X N n js scope cl) (hc : X.calm = true) (hi : PI X tg iter wi)
    (hg : ∀ C s0 H0 fp0, PG (zA X N scope cl C s0 H0 fp0) tg g) (ht : ∀ C s0 H0 fp0, PTs (zA X N scope cl C s0 H0 fp0) ifs tt) (he : ∀ C s0 H0 fp0, PE (zA X N scope cl C s0 H0 fp0) elt te)
    (hs : ∀ x, foldedSetIterable iter X.env x = pure x := by intro _; rfl) : PE X (.ListComp elt [⟨tg, iter, ifs, 0⟩] scope pos) (Yh wi n js g tt te) := jL L hc hi hg ht he hs
theorem uK {i : Nat} {x : Str} {pos' spos : Pos} (hN : X.N.Nodup) (hx : X.N[i]? = some x) (hk : X.env.scope.names.lookup x = some .local) (L : LcOk X N n js scope cl) (hc : X.calm = true) (hi : PI X tg iter wi)
    (hg : ∀ C s0 H0 fp0, PG (zA X N scope cl C s0 H0 fp0) tg g) (ht : ∀ C s0 H0 fp0, PTs (zA X N scope cl C s0 H0 fp0) ifs tt) (he : ∀ C s0 H0 fp0, PE (zA X N scope cl C s0 H0 fp0) elt te)
    (hsw : swapsWith (.ListComp elt [⟨tg, iter, ifs, 0⟩] scope pos) (some (.Name x pos')) spos.line X.env = pure true := by rfl)
    (hs : ∀ x, foldedSetIterable iter X.env x = pure x := by intro _; rfl) : PS X (.Assign [.Name x pos'] (.ListComp elt [⟨tg, iter, ifs, 0⟩] scope pos) spos) (u5 (Yh wi n js g tt te) (vd i)) := qk hN hx hk L hc hi hg ht he hsw hs
end
noncomputable def UH (Wi : TIW) (n : Nat) (js : List Nat) (G : TGW) (T : TTW) (E : TEW) : TEW := fun ρ O R => Wi ρ O fun ws keep O1 => ws.length ≤ 100000 ∧ ∃ J : Nat → List W → OM → Prop, J 0 [] O1 ∧ (∀ i vs O', J i vs O' → keep O') ∧
  (∀ i w vs O', ws[i]? = some w → J i vs O' → ∀ us : WS, us.length = n → v2 G T E n (zz js ρ) w (us ++ zz js ρ) O' fun y O2 => J (i + 1) (vs ++ y.toList) O2) ∧ ∀ vs O', J ws.length vs O' → ∀ p, O' p = none → R (.own p) (updO O' p (.lst vs))
theorem X9 {wi : TI} {Wi : TIW} {n : Nat} {js : List Nat} {g : TG} {G : TGW} {tt : TT} {T : TTW} {te : TE} {E : TEW} (hi : xG K wi Wi) (hg : RefG K g G) (ht : ym K tt T) (he : zl K te E) : zl K (Yh wi n js g tt te) (UH Wi n js G T E) := by
  intro Γ O H ρ σ S r Q R hT k
  refine hi _ _ _ _ _ S r _ _ hT fun Γ1 O1 H1 J0 ws keep l1 S1 ok h1 => ?_
  obtain ⟨hlen, J, hJ0, hJk, hF, hR⟩ := h1
  intro D hD
  have hFD : Γ1.F D = none := S1.f.free hD
  have r1 := y8 (r.mono l1) n js
  refine ⟨fun i m σ' H' => i ≤ ws.length ∧ m = ws.length - i ∧ ∃ Γ' O' ρ' us vs, Same Γ1.Z Γ'.Z ∧ (∀ a rs, Γ1.G a = some rs → ∃ more, Γ'.G a = some (rs ++ more)) ∧ Γ'.F = upd Γ1.F D (.lst vs) ∧ Sim K Γ' O' H' ∧ relR K Γ' ρ' σ' ∧
    ρ'.length = n + (zz js ρ).length ∧ ρ'.drop n = zz js ρ ∧ J i us O' ∧ us.length ≤ i ∧ relWs K Γ' us vs, ⟨_, Nat.zero_le _, rfl, _, O1, _, [], [], Same.refl _, fun a rs h => ⟨[], by rw [List.append_nil]; exact h⟩, rfl, S1.frameNew hD (.lst []), r1.setF, by simp, by simp, hJ0, Nat.le_refl _, .nil⟩, ?_⟩
  rintro i m σ' H' ⟨hi, rfl, Γ', O', ρ', us, vs, z', g', f', S', r', n1, n2, hJ, hul, rp⟩
  obtain ⟨ok1, ok2⟩ := ok i Γ' O' H' z' g' S' (hJk _ _ _ hJ)
  have hvl : vs.length ≤ i := by rw [← Paired.length rp]; exact hul
  by_cases hlt : i < ws.length
  · obtain ⟨go, y⟩ := ok1 _ (List.getElem?_eq_getElem hlt)
    refine .inr ⟨go, fun σ2 H2 => ∃ Γ2 O2 ρ2 us2 vs2, Same Γ1.Z Γ2.Z ∧ (∀ a rs, Γ1.G a = some rs → ∃ more, Γ2.G a = some (rs ++ more)) ∧ Γ2.F = upd Γ1.F D (.lst vs2) ∧ Sim K Γ2 O2 H2 ∧ relR K Γ2 ρ2 σ2 ∧
      ρ2.length = n + (zz js ρ).length ∧ ρ2.drop n = zz js ρ ∧ J (i + 1) us2 O2 ∧ us2.length ≤ i + 1 ∧ relWs K Γ2 us2 vs2, fun σ2 H2 h => ⟨ws.length - (i + 1), by omega, hlt, rfl, h⟩, fun x H2 hy => ?_⟩
    obtain ⟨Γ2, l2, S2, rx⟩ := y x H2 hy
    obtain ⟨ul, hus, rfl⟩ := xH n1 n2
    refine hg _ _ _ _ _ _ _ S2 (r'.mono l2) rx _ _ (hF i _ us O' (List.getElem?_eq_getElem hlt) hJ ul hus) fun Γ3 O3 H3 ρ3 σ3 l3 S3 r3 h3 => ?_
    obtain ⟨⟨m1, m2⟩, h3⟩ := h3
    refine ht _ _ _ _ _ S3 r3 _ _ h3 fun Γ4 O4 H4 b l4 S4 h4 => ?_
    have l24 := (l2.trans l3).trans l4
    have up : ∀ Γ5, Le Γ' Γ5 → Same Γ1.Z Γ5.Z ∧ (∀ a rs, Γ1.G a = some rs → ∃ more, Γ5.G a = some (rs ++ more)) := fun Γ5 l => ⟨z'.trans l.z, fun a rs h => by
      obtain ⟨m, e⟩ := g' a rs h
      obtain ⟨m2, e2⟩ := l.g a _ e
      exact ⟨m ++ m2, by rw [← List.append_assoc]; exact e2⟩⟩
    cases b with
    | true =>
      rw [if_pos rfl] at h4 ⊢
      refine he _ _ _ _ _ S4 (r3.mono l4) _ _ h4 fun Γ5 O5 H5 w5 v5 l5 S5 r5 h5 => ?_
      have l25 := l24.trans l5
      have f5 : Γ5.F = upd Γ1.F D (.lst vs) := by rw [l25.f, f']
      have fD : Γ5.F D = some (.lst vs) := by rw [f5, zh]
      refine ⟨vs, S5.f _ _ fD, (by rw [sizeLine_eq]; omega), ?_⟩
      obtain ⟨u1, u2⟩ := up Γ5 l25
      refine ⟨⟨Γ5.Z, Γ5.G, upd Γ5.F D (.lst (vs ++ [v5]))⟩, O5, ρ3, us ++ [w5], vs ++ [v5], u1, u2, ?_, S5.framePut fD _, ((r3.mono l4).mono l5).setF, m1, m2, h5, by rw [List.length_append]; simpa using hul, ?_⟩
      · show upd Γ5.F D _ = _
        rw [f5, vc]
      · exact Paired.appP (Paired.mapP rp fun _ _ z => (z.mono l25).setF) (.cons r5.setF .nil)
    | false =>
      rw [if_neg (by decide)] at h4 ⊢
      obtain ⟨u1, u2⟩ := up Γ4 l24
      refine ⟨Γ4, O4, ρ3, us, vs, u1, u2, by rw [l24.f, f'], S4, r3.mono l4, m1, m2, by simpa using h4, by omega, Paired.mapP rp fun _ _ z => z.mono l24⟩
  · have hi2 : i = ws.length := by omega
    subst hi2
    refine .inl ⟨ok2 rfl, ?_⟩
    obtain ⟨q1, q2⟩ := S'.unframeW f' hFD rp
    exact k ⟨Γ'.Z, Γ'.G, Γ1.F⟩ _ _ _ _ (l1.trans ⟨rfl, z', g'⟩) q2 ye (hR us O' hJ D q1)
noncomputable def UI (K : PySem.W.Frag) : V → Option Int → Option Int → Hp → VK → Prop := jK K
theorem yk {X : Cx} (h : X.K = K) : SlR X (UI K) := ql h
theorem Va {Γ : Gh} {ws : List W} {vs : List V} (h : relWs K Γ ws vs) (lo hi : Option Int) : relWs K Γ (xj ws lo hi) (xY vs lo hi) := by
  have hl : ws.length = vs.length := Paired.length h
  have := Paired.takeP (Paired.dropP h (HT.sIx vs.length 0 lo)) (HT.sIx vs.length vs.length hi - HT.sIx vs.length 0 lo)
  unfold xj xY
  rw [hl]
  exact this
noncomputable def UJ (Te : TEW) (Tl Th : TOW) : TEW := fun ρ O R => Te ρ O fun x O1 => Tl ρ O1 fun l O2 => Th ρ O2 fun u O3 => ∃ ws, zj O3 x = some ws ∧ ∀ p, O3 p = none → R (.own p) (updO O3 p (.lst (xj ws l u)))
theorem Vb {te : TE} {tl th : TO} {Te : TEW} {Tl Th : TOW} (he : zl K te Te) (hl : ut K tl Tl) (hh : ut K th Th) : zl K (tSl (UI K) te tl th) (UJ Te Tl Th) := by
  intro Γ O H ρ σ S r Q R hT k
  refine he _ _ _ _ _ S r _ _ hT fun Γ1 O1 H1 x v l1 S1 rx h1 => ?_
  refine hl _ _ _ _ _ S1 (r.mono l1) _ _ h1 fun Γ2 O2 H2 l l2 S2 h2 => ?_
  refine hh _ _ _ _ _ S2 (r.mono (l1.trans l2)) _ _ h2 fun Γ3 O3 H3 u l3 S3 h3 => ?_
  obtain ⟨ws, e1, h3⟩ := h3
  obtain ⟨a, vs, rfl, q1, q2⟩ := zO S3 ((rx.mono l2).mono l3) e1
  refine ⟨a, vs, rfl, q1, fun p hp => ?_⟩
  obtain ⟨hO, S'⟩ := xv S3 (Va q2 l u) hp
  exact k _ _ _ _ _ ((l1.trans l2).trans l3) S' ye (h3 p hO)
noncomputable def xa (O : OM) : W → Option PyData
  | .d x => some x
  | .own a => match O a with
    | some (.lst ws) => (zP ws).map .list
    | _ => none
  | _ => none
noncomputable def zR (O : OM) : List W → Option (List PyData)
  | [] => some []
  | w :: ws => match xa O w, zR O ws with
    | some d, some ds => some (d :: ds)
    | _, _ => none
noncomputable def yD (O : OM) : W → Option PyData
  | .d x => some x
  | .own a => match O a with
    | some (.lst ws) => (zR O ws).map .list
    | some (.grid rows) => some (.list (rows.map .list))
    | _ => none
  | .row a i => uq O (.row a i)
theorem Zj {Γ : Gh} {O : OM} {H : Hp} {w : W} {v : V} {x : PyData} (S : Sim K Γ O H) (r : relW K Γ w v) (e : xa O w = some x) : Rep K H x v := by
  cases w with
  | d y => cases e; exact Rep.same S.z _ _ r
  | row _ _ => cases e
  | own a =>
    refine vK S r ?_
    simp only [xa] at e
    simp only [uq]
    split at e
    · rename_i ws h
      rw [h]
      exact e
    · cases e
theorem uc {Γ : Gh} {O : OM} {H : Hp} (S : Sim K Γ O H) : ∀ {ws : List W} {vs : List V} {ds : List PyData}, relWs K Γ ws vs → zR O ws = some ds → Reps K H ds vs
  | [], _, ds, r, e => by
    cases r
    cases e
    exact rfl
  | w :: ws, _, ds, r, e => by
    cases r with
    | cons rx t =>
      simp only [zR] at e
      split at e
      · rename_i d ds' e1 e2
        cases e
        exact ⟨_, _, rfl, Zj S rx e1, uc S t e2⟩
      · cases e
theorem xc {Γ : Gh} {O : OM} {H : Hp} {w : W} {v : V} {x : PyData} (S : Sim K Γ O H) (r : relW K Γ w v) (e : yD O w = some x) : Rep K H x v := by
  cases w with
  | d y => cases e; exact Rep.same S.z _ _ r
  | row a i => exact vK S r e
  | own a =>
    simp only [yD] at e
    split at e
    · rename_i ws h
      cases (show v = .ref a from r)
      cases hd : zR O ws with
      | none => rw [hd] at e; cases e
      | some ds =>
        rw [hd] at e
        cases e
        obtain ⟨_, vs, h1, h2⟩ := S.o _ _ h
        exact ⟨a, vs, rfl, SqL.of h1, uc S h2 hd⟩
    · rename_i rows h
      refine vK S r ?_
      simp only [uq, h]
      exact e
    · cases e
noncomputable def Xc : R2W := fun x y O R => ∃ a b, yD O x = some a ∧ yD O y = some b ∧ SeqAt.shaped a = true ∧ SeqAt.shaped b = true ∧ R (.d (.bool (PyData.eqv a b))) O
noncomputable def Xd : R2W := fun x y O R => ∃ a b, yD O x = some a ∧ yD O y = some b ∧ SeqAt.shaped a = true ∧ SeqAt.shaped b = true ∧ R (.d (.bool (!PyData.eqv a b))) O
theorem UK : RefR K (jM K) Xc := by
  rintro Γ O H x y v u S rx ry Q R ⟨a, b, e1, e2, s1, s2, h⟩ k
  exact ⟨a, b, xc S rx e1, xc S ry e2, s1, s2, k _ _ _ _ _ (Le.refl _) S yW h⟩
theorem UL : RefR K (ZJ K) Xd := by
  rintro Γ O H x y v u S rx ry Q R ⟨a, b, e1, e2, s1, s2, h⟩ k
  exact ⟨a, b, xc S rx e1, xc S ry e2, s1, s2, k _ _ _ _ _ (Le.refl _) S yW h⟩
theorem ud (O : OM) : ∀ ds : List PyData, zR O (ds.map .d) = some ds
  | [] => rfl
  | d :: ds => by simp only [List.map_cons, zR, xa, ud O ds]
theorem Sim.freezeItems {Γ : Gh} {O : OM} {H : Hp} : ∀ {ws : List W} {vs : List V} {ds : List PyData} {Γ : Gh} {O : OM}, Sim K Γ O H → relWs K Γ ws vs → zR O ws = some ds → ws.Nodup → ∃ Γ' O', Le Γ Γ' ∧ Sim K Γ' O' H ∧ Reps K Γ'.Z ds vs ∧ (∀ b, W.own b ∉ ws → O' b = O b)
  | [], _, ds, Γ, O, S, r, e, _ => by
    cases r
    cases e
    exact ⟨Γ, O, Le.refl _, S, rfl, fun _ _ => rfl⟩
  | w :: ws, _, ds, Γ, O, S, r, e, nd => by
    cases r with
    | cons rx t =>
      rename_i v vs
      simp only [zR] at e
      split at e
      · rename_i d ds' e1 e2
        cases e
        obtain ⟨nw, nd'⟩ := List.nodup_cons.mp nd
        cases w with
        | d y =>
          cases e1
          obtain ⟨Γ', O', l, S', rs, hk⟩ := Sim.freezeItems (Γ := Γ) (O := O) S t e2 nd'
          exact ⟨Γ', O', l, S', ⟨_, _, rfl, Rep.same l.z _ _ rx, rs⟩, fun b hb => hk b fun z => hb (List.mem_cons_of_mem _ z)⟩
        | row _ _ => cases e1
        | own a =>
          simp only [xa] at e1
          split at e1
          · rename_i us ho
            cases hd : zP us with
            | none => rw [hd] at e1; cases e1
            | some es =>
              rw [hd] at e1
              cases e1
              rw [zX hd] at ho
              obtain ⟨Γ1, l1, S1, r1⟩ := S.freeze ho
              cases (show v = .ref a from rx)
              have key : ∀ {xs : List W} {ys : List PyData}, W.own a ∉ xs → zR O xs = some ys → zR (del O a) xs = some ys := by
                intro xs
                induction xs with
                | nil => intro ys _ h; exact h
                | cons x xs ih =>
                  intro ys hn h
                  simp only [zR] at h ⊢
                  split at h
                  · rename_i d0 ds0 f1 f2
                    cases h
                    have g1 : xa (del O a) x = some d0 := by
                      cases x with
                      | d _ => exact f1
                      | row _ _ => cases f1
                      | own c =>
                        have hc : c ≠ a := fun z => hn (by rw [z]; exact List.mem_cons_self)
                        simp only [xa] at f1 ⊢
                        rw [yi hc]
                        exact f1
                    rw [g1, ih (fun z => hn (List.mem_cons_of_mem _ z)) f2]
                  · cases h
              obtain ⟨Γ', O', l, S', rs, hk⟩ := Sim.freezeItems (Γ := Γ1) (O := del O a) S1 (Paired.mapP t fun _ _ z => z.mono l1) (key nw e2) nd'
              refine ⟨Γ', O', l1.trans l, S', ⟨_, _, rfl, Rep.same l.z _ _ r1, rs⟩, fun b hb => ?_⟩
              have hba : b ≠ a := fun z => hb (by rw [z]; exact List.mem_cons_self)
              rw [hk b fun z => hb (List.mem_cons_of_mem _ z), yi hba]
          · cases e1
      · cases e
end
end L2
namespace L2
open PySem PySem.Spec PyProof.Rows
section
variable {P : Program} {w : World} {K : PySem.W.Frag} {mg : Str → Option Value} {base : Heap}
end
theorem Rd.but {H H' : Hp} {x a : Addr} {u : HO} {C dx : Addr} {fs : List (Str × V)} (hx : H x = some (.ins C dx fs)) (hk : ∀ b o, b ≠ x → H b = some o → H' b = some o) (hu : (∃ vs, u = .lst vs) ∨ (∃ vs, u = .tup vs) ∨ ∃ kvs, u = .dK kvs) (r : Rd H a u) : Rd H' a u := by
  have ne : a ≠ x := fun z => by
    subst z
    rcases r with r | ⟨o, r⟩
    · rw [hx] at r
      cases r
      rcases hu with ⟨_, e⟩ | ⟨_, e⟩ | ⟨_, e⟩ <;> cases e
    · rw [hx] at r; cases r
  rcases r with r | ⟨o, r⟩
  · exact .inl (hk a _ ne r)
  · exact .inr ⟨o, hk a _ ne r⟩
mutual
theorem Rep.but {K : PySem.W.Frag} {H H' : Hp} {x : Addr} {C dx : Addr} {fs : List (Str × V)} (hx : H x = some (.ins C dx fs)) (hk : ∀ b o, b ≠ x → H b = some o → H' b = some o) : ∀ (d : PyData) (v : V), Rep K H d v → Rep K H' d v
  | .none, _, h => h
  | .bool _, _, h => h
  | .int _, _, h => h
  | .str _, _, h => h
  | .list ds, _, ⟨a, xs, e, h1, h2⟩ => ⟨a, xs, e, h1.elim (fun r => .inl (r.but hx hk (.inl ⟨_, rfl⟩))) .inr, Reps.but hx hk ds xs h2⟩
  | .tuple ds, _, ⟨a, xs, e, h1, h2⟩ => ⟨a, xs, e, h1.elim (fun r => .inl (r.but hx hk (.inr (.inl ⟨_, rfl⟩)))) .inr, Reps.but hx hk ds xs h2⟩
  | .dict _, _, ⟨e0, a, e, h1⟩ => ⟨e0, a, e, h1.but hx hk (.inr (.inr ⟨_, rfl⟩))⟩
theorem Reps.but {K : PySem.W.Frag} {H H' : Hp} {x : Addr} {C dx : Addr} {fs : List (Str × V)} (hx : H x = some (.ins C dx fs)) (hk : ∀ b o, b ≠ x → H b = some o → H' b = some o) : ∀ (ds : List PyData) (vs : List V), Reps K H ds vs → Reps K H' ds vs
  | [], _, h => h
  | d :: ds, _, ⟨x', r, e, h1, h2⟩ => ⟨x', r, e, Rep.but hx hk d x' h1, Reps.but hx hk ds r h2⟩
end
end L2
namespace L2
open PySem PySem.Spec PyProof.Rows
end L2
namespace PySem.AutoListH
open AutoSeq1 (wpAny_loadPart')
open MeetsSeq MeetsSeq2 MeetsSeq3 SeqRoads2
theorem list_mul_sl (l : Addr) (items : Array Value) (n : Nat) (sl : Array (Option Value)) (x : Int) (u : Tok) (hc0 : ¬(!Builtin.List.listFitsIndex x) = true) (hc1 : ¬items.size * x.toNat > (2 ^ 63 - 1) / 8) (hc2 : ¬Builtin.List.listTooLong (items.size * x.toNat) = true) :
    Meets (Builtin.«list.__mul__» ⟨[.ref l, .int x u], []⟩) (fun _ R s => s.heap.get? l = some { cls := .type "list", dict := none, data := .seq items n, slots := sl } ∧ R (.ok (.ret (Value.ref s.heap.objs.size))) { s with heap := s.heap.push { cls := Value.type "list", data := Data.seq (List.foldl (fun x1 x2 => x1 ++ x2) #[] (List.replicate (if items.isEmpty = true then 0 else x.toNat) items)) }, toks := s.toks }) :=
  .of_wp fun prog w A R s h => by
    obtain ⟨hp, g, d, tk, os⟩ := s; obtain ⟨hl, h⟩ := h
    have hsz := joined_fits hc2
    wp_walk using wpAny_loadPart' hl; refine wpAny_ite_false (decide_eq_false (Nat.not_lt.mpr hsz)) ?_; wp_walk; exact ⟨_, rfl, h⟩
theorem rmul_sl (a : Int) (t : Tok) (l : Addr) (items : Array Value) (n : Nat) (sl : Array (Option Value)) :
    Meets (Builtin.«int.__rmul__» ⟨[.int a t, .ref l], []⟩) (fun _ R s => s.heap.get? l = some { cls := .type "list", dict := none, data := .seq items n, slots := sl } ∧ R (.ok (.ret Value.notImplemented)) s) :=
  .of_wp fun prog w A R s h => by obtain ⟨hp, g, d, tk, os⟩ := s; obtain ⟨hl, h⟩ := h; wp_walk; exact ⟨_, rfl, h⟩
end PySem.AutoListH
namespace L2
open PySem PySem.Spec PyProof.Rows
noncomputable abbrev YK := Addr → OM → Prop
section
variable (K : PySem.W.Frag)
noncomputable def Yi (Γ : Gh) (E : XK) (Y : YK) : Prop := ∀ Γ' O' H' C, Le Γ Γ' → Sim K Γ' O' H' → Y C O' → E (.ref C) none H'
end
section
variable {K : PySem.W.Frag}
theorem Yi.mono {Γ Γ' : Gh} {E : XK} {Y : YK} (h : Yi K Γ E Y) (l : Le Γ Γ') : Yi K Γ' E Y := fun _ _ _ _ l2 => h _ _ _ _ (l.trans l2)
variable {P : Program} {w : World} {mg : Str → Option Value} {base : Heap}
theorem Sim.grow {Γ : Gh} {O : OM} {H H' : Hp} (S : Sim K Γ O H) (h : Same H H') : Sim K Γ O H' := by
  refine ⟨fun b u e => h _ _ (S.z _ _ e), fun a oo e => ?_, fun a rs e => ?_, fun b u e => h _ _ (S.f _ _ e), S.gn, S.fg, S.fd, S.u⟩
  · obtain ⟨h1, h2⟩ := S.o _ _ e
    refine ⟨h1, ?_⟩
    cases oo with
    | lst ws => obtain ⟨vs, q1, q2⟩ := h2; exact ⟨vs, h _ _ q1, q2⟩
    | dK kvs => obtain ⟨vs, q1, q2⟩ := h2; exact ⟨vs, h _ _ q1, q2⟩
    | ins C dx fs => obtain ⟨vs, q1, q2⟩ := h2; exact ⟨vs, h _ _ q1, q2⟩
    | raw p => obtain ⟨o, q1, q2⟩ := h2; exact ⟨o, h _ _ q1, q2⟩
    | grid rows =>
      obtain ⟨rs, q1, q2, q3, q4, q5⟩ := h2
      refine ⟨rs, q1, h _ _ q2, q3, q4, fun i r ds e1 e2 => ?_⟩
      obtain ⟨z1, z2, vs, z3, z4⟩ := q5 i r ds e1 e2
      exact ⟨z1, z2, vs, h _ _ z3, z4⟩
  · obtain ⟨o, q⟩ := S.gd _ _ e
    exact ⟨o, h _ _ q⟩
end
noncomputable def Zk : PyData → Bool
  | .int _ => true
  | .bool _ => true
  | _ => false
noncomputable def ju : PyData → Bool
  | .bool _ => true
  | _ => false
noncomputable def Zl : PyData → Bool
  | .str _ => true
  | _ => false
noncomputable def jv : PyData → Bool
  | .list _ => true
  | _ => false
noncomputable def Zm : PyData → Bool
  | .tuple _ => true
  | _ => false
noncomputable def isN (d : PyData) : String → Bool
  | "int" => Zk d
  | "bool" => ju d
  | "str" => Zl d
  | "list" => jv d
  | _ => Zm d
noncomputable def okN : String → Bool
  | "bool" => true
  | "int" => true
  | "str" => true
  | "list" => true
  | "tuple" => true
  | _ => false
section
variable {K : PySem.W.Frag}
noncomputable def UM (K : PySem.W.Frag) : List V → Hp → VK → Prop := Z8 K
theorem Zn {X : Cx} (h : X.K = K) : zY X (.builtin "isinstance") (UM K) := Zb h
theorem Vc {ta : TE} {Ta : TEW} (h : zl K ta Ta) : zl K (tCB (UM K) (xC ta (xC (tC (.ty "list")) u8))) (qB Ta) := X6 h
noncomputable def ka (K : PySem.W.Frag) : R2 := fun x y H Q => ∃ l k xs, x = .ref l ∧ y = .int k ∧ SqL K H l xs ∧ -(2 ^ 63) ≤ k ∧ k < 2 ^ 63 ∧ xs.length * k.toNat ≤ sizeLine ∧
  ∀ p, H p = none → Q (.ref p) (upd H p (.lst (List.replicate k.toNat xs).flatten))
end
theorem Vd {X : Cx} : OpR X (binaryOp .Mult) (ka X.K) := by
  intro pins s σ H x y v u Q I rx ry h
  obtain ⟨l, k, xs, rfl, rfl, hH, h1, h2, hz, q⟩ := h
  cases rx
  obtain ⟨t, rfl⟩ := ry
  obtain ⟨its, r, ⟨⟨oc, od, oda, osl⟩, n, e, c, d, dt⟩, hl⟩ := I.list hH
  simp only at c d dt
  subst c d dt
  have hl : xs.length = its.length := r.length
  have hlen : its.toArray.size * k.toNat ≤ sizeLine := by rw [List.size_toArray, ← hl]; exact hz
  have hcap : ¬ its.toArray.size * k.toNat > (2 ^ 63 - 1) / 8 := by
    have : (sizeLine : Nat) ≤ (2 ^ 63 - 1) / 8 := by decide
    omega
  have hfit : ¬ (!Builtin.List.listFitsIndex k) = true := by
    rw [fitsIndex_both h1 h2]
    exact Bool.false_ne_true
  have hlong : ¬ Builtin.List.listTooLong (its.toArray.size * k.toNat) = true := by
    rw [qi hlen]
    exact Bool.false_ne_true
  have hnew : List.foldl (fun x1 x2 => x1 ++ x2) #[] (List.replicate (if its.toArray.isEmpty = true then 0 else k.toNat) its.toArray) = (List.replicate k.toNat its).flatten.toArray := by
    have f0 : ∀ m : Nat, List.foldl (fun x1 x2 => x1 ++ x2) #[] (List.replicate m its.toArray) = (List.replicate m its).flatten.toArray := fun m => by
      have := xZ its m []
      rw [List.nil_append] at this
      exact this
    rw [f0]
    cases its with
    | nil => simp
    | cons a r' => rw [if_neg (by simp)]
  refine wpAny_binaryOp_repeat_ref (T := "list") (U := "int") (by decide) ⟨_, e, rfl⟩ (fun s' => typeIs_int s' k t) noFill_list_mul F.fills_int_mul F.slot_int_rmul repeat_list F.slot_int_index.lookup
    (call_meets F.slot_int_rmul (typeIs_int s k t) F.entry_int_rmul (F.args_int_rmul_2 _ _) (AutoListH.rmul_sl k t l its.toArray n osl)
      ⟨e, rfl, ⟨_, e, rfl⟩, call_meets F.slot_list_mul ⟨_, e, rfl⟩ F.entry_list_mul (F.args_list_mul_2 _ _) (AutoListH.list_mul_sl l its.toArray n osl k t hfit hcap hlong) ⟨e, ?_⟩⟩)
  rw [hnew]
  exact ⟨.ref _, _, I.lnew (t' := s.toks) (r.rep k.toNat) (by rw [ji, Nat.mul_comm]; exact hz), rfl, q _ I.fresh⟩
theorem Ve {X : Cx} {K : PySem.W.Frag} (h : X.K = K) : OpR X (binaryOp .Mult) (ka K) := by subst h; exact Vd
section
variable {K : PySem.W.Frag}
noncomputable def Yj (n : Int) (ds : List PyData) : List PyData := (List.replicate n.toNat ds).flatten
noncomputable def Xe : R2W := fun x y O R => ∃ ds n, seqD O x = some ds ∧ z0 x = none ∧ y = .d (.int n) ∧ 0 ≤ n ∧ n ≤ 1000 ∧ ds.length * n.toNat ≤ 100000 ∧ R (.d (.list (Yj n ds))) O
theorem UN : RefR K (ka K) Xe := by
  rintro Γ O H x y v u S rx ry Q R ⟨ds, n, e, et, rfl, n0, n1, hl, h⟩ k
  unfold seqD at e
  rw [et] at e
  simp only at e
  cases hL : zj O x with
  | none => rw [hL] at e; cases e
  | some ws =>
    rw [hL] at e
    obtain ⟨a, vs, rfl, q1, q2⟩ := zO S rx hL
    rw [zX (show zP ws = some ds from e)] at q2
    have q3 := zm q2
    refine ⟨a, n, vs, rfl, ry, q1, by omega, by omega, by rw [← Reps.length q3, sizeLine_eq]; omega, fun p hp => ?_⟩
    obtain ⟨Γ', le, S', r'⟩ := x0 S (vO q3 n.toNat) hp
    exact k _ _ _ _ _ le S' r' h
end
end L2
namespace PySem.MeetsSeq2
open AutoSeq1 (wpAny_loadPart')
open MeetsSeq
end PySem.MeetsSeq2
namespace L2
open PySem PySem.Spec PyProof.Rows
noncomputable abbrev DSp (kvs : List (Str × Value)) (D : List (Str × Int)) : Prop := Paired (fun (p : Str × Value) (q : Str × Int) => p.1 = q.1 ∧ ∃ t, p.2 = .int q.2 t) kvs D
structure DS (P : Program) (w : World) (K : PySem.W.Frag) (a : Addr) (D : List (Str × Int)) : Prop where
  ns : (a == sysModules) = false
  ex : ∃ (kvs : List (Str × Value)) (ep : Nat), (∀ h : Heap, K.In h → h.DictAt (strKind P w) a kvs ep) ∧ DSp kvs D
theorem qD : ∀ {kvs : List (Str × Value)} {D : List (Str × Int)}, PyProof.V.FlatPairs PyData.str kvs ((D.map fun p => (p.1, PyData.int p.2)).map fun p => (PyData.str p.1, p.2)) → DSp kvs D
  | _, [], h => by
    cases h
    exact .nil
  | _, (y, i) :: D, h => by
    simp only [List.map_cons] at h
    cases h with
    | cons hf ht =>
      refine .cons ⟨rfl, ?_⟩ (qD ht)
      cases hf (default : Heap) with
      | int _ t => exact ⟨t, rfl⟩
theorem DS.of {P : Program} {w : World} {K : PySem.W.Frag} {a : Addr} {D : List (Str × Int)} (hl : KTD.tabLook KTD.flatLooks (fun b => K.lookup b) a (D.map fun p => (p.1, PyData.int p.2)) = true)
    (hn : ((D.map fun p => (p.1, PyData.int p.2)).map (·.1)).Nodup) (hh : KTD.hashesOf (fun b => K.lookup b) a = (D.map fun p => (p.1, PyData.int p.2)).map fun p => (strKind P w).hash p.1) : DS P w K a D := by
  simp only [KTD.tabLook, Bool.and_eq_true] at hl
  obtain ⟨h0, hl⟩ := hl
  split at hl
  · rename_i o ho
    simp only [Bool.and_eq_true] at hl
    obtain ⟨⟨⟨e1, e2⟩, e3⟩, e4⟩ := hl
    split at e4
    · rename_i es ep hd
      have hh' : es.toList.map (·.hash) = (D.map fun p => (p.1, PyData.int p.2)).map fun p => (strKind P w).hash p.1 := by
        rw [← hh]; unfold KTD.hashesOf; simp only [ho, hd]
      obtain ⟨hk, kvs, hp, hf, hm⟩ := KTD.strs_of_rows P w (KTD.rows_of_look (fun _ _ x => KTD.flat_of_looks x) e4) hh'
      exact ⟨by simpa using h0, kvs, ep, fun h X => ⟨o, es, X _ _ ho, ⟨beq_iff_eq.mp e1, by simpa using e2, by simpa using e3⟩, hd, fun e he => hk e (by simpa using he), hp, by rw [hm]; exact hn⟩, qD hf⟩
    · cases e4
  · cases hl
section
variable {K : PySem.W.Frag} {P : Program} {w : World}
end
section
variable {K : PySem.W.Frag}
end
section
variable {K : PySem.W.Frag}
noncomputable def QJ : W → Option Str
  | .d (.str z) => if z.length ≤ 1000 then some z else none
  | .d (.int i) => if -1000000 ≤ i ∧ i ≤ 1000000 then some (toString i) else none
  | _ => none
end
end L2
namespace L2
open PySem PySem.W PySem.Spec PySem.Calls PyProof.Rows
structure RoomE (k : Nat) (A : Around) : Prop where
  dp : A.depth + 3 * k + 5 < recursionLimit
  un : A.units + 16 * k + 200 < cLine
  gd : A.guards = some []
theorem Room.e {k : Nat} {A : Around} (r : Room k A) : RoomE k A := ⟨r.dp, r.un, r.gd⟩
theorem RoomE.mono {j k : Nat} {A : Around} (r : RoomE k A) (h : j ≤ k) : RoomE j A := ⟨by have := r.dp; omega, by have := r.un; omega, r.gd⟩
theorem RoomE.deeper {k : Nat} {A : Around} (r : RoomE (k + 1) A) (env : Env) : RoomE k (A.deeper env) :=
  ⟨by have := r.dp; show A.depth + 1 + 3 * k + 5 < _; omega, by have := r.un; show A.units + 3 + 16 * k + 200 < _; omega, r.gd⟩
section
variable {X : Cx} {K : PySem.W.Frag} {P : Program} {w : World}
end
end L2
namespace L2
open PySem PySem.Spec PyProof.Rows
end L2
namespace PySem
open Sem (wp)
section
variable {prog : Program} {w : World} {A : Around} {E : Value → Shared → Prop} {s : Shared}
variable {z TI TO i1 i2 : Addr} {fp1 fp2 : List Addr} {n1 n2 : Nat} {P1 P2 : Nat → Value → Prop} {St1 St2 : Nat → Heap → Prop}
end
section
variable {prog : Program} {w : World} {A : Around} {E : Value → Shared → Prop} {s : Shared}
end
end PySem
namespace L2
open PySem PySem.Spec PyProof.Rows
section
variable {K : PySem.W.Frag}
theorem Sim.all (H : Hp) : Sim K ⟨H, fun _ => none, fun _ => none⟩ (fun _ => none) H :=
  ⟨Same.refl _, fun _ _ e => (by cases e), fun _ _ e => (by cases e), fun _ _ e => (by cases e), fun _ _ e => (by cases e), fun _ _ e => (by cases e), fun _ _ e => (by cases e), fun _ _ _ _ _ _ _ e => (by cases e)⟩
variable {P : Program} {w : World} {mg : Str → Option Value} {base : Heap}
end
section
variable {X : Cx} {K : PySem.W.Frag}
end
section
variable {X : Cx} {pins : List (Addr × Obj)} {σ : St} {H H' : Hp} {s : Shared} {h' : Heap}
end
section
variable {X : Cx} {K : PySem.W.Frag}
end
section
variable {K : PySem.W.Frag}
end
end L2
namespace L2
open PySem PySem.Spec PyProof.Rows PySem.Builtin PySem.Builtin.Str
section
variable {K : PySem.W.Frag}
noncomputable def Xf : R2 := VM
theorem jw {X : Cx} : OpR X (binaryOp .Mult) Xf := VN
noncomputable def Xg : R2W := fun x y O R => ∃ a ws ds n, x = .own a ∧ y = .d (.int n) ∧ O a = some (.lst ws) ∧ zP ws = some ds ∧ 0 ≤ n ∧ n ≤ 1000 ∧ ds.length * n.toNat ≤ 100000 ∧ ∀ p, O p = none → R (.own p) (updO O p (.lst ((List.replicate n.toNat ds).flatten.map W.d)))
theorem vw {Γ : Gh} : ∀ {ds : List PyData} {vs : List V}, Reps K Γ.Z ds vs → relWs K Γ (ds.map W.d) vs
  | [], _, h => by
    cases (show _ = [] from h)
    exact .nil
  | d :: ds, _, h => by
    obtain ⟨v, vs, rfl, h1, h2⟩ := h
    exact .cons h1 (vw h2)
theorem UO : RefR K Xf Xg := by
  rintro Γ O H x y v u S rx ry Q R ⟨a, ws, ds, n, rfl, rfl, ho, e, n0, n1, hl, h⟩ k
  cases (show v = .ref a from rx)
  obtain ⟨_, vs, q1, q2⟩ := S.o _ _ ho
  rw [zX e] at q2
  have q3 := zm q2
  refine ⟨a, n, vs, rfl, ry, q1, by omega, by omega, by rw [← Reps.length q3, sizeLine_eq]; omega, fun p hp => ?_⟩
  obtain ⟨hO, S'⟩ := xv S (vw (vO q3 n.toNat)) hp
  exact k _ _ _ _ _ (Le.refl _) S' ye (h p hO)
end
noncomputable def QM : Str := ⟨#[58]⟩
noncomputable def nl : Str := ⟨#[10]⟩
noncomputable def okW (r : Rw6) : Prop := 1 ≤ r.length ∧ r.length ≤ 24 ∧ okR r ∧ ∀ c ∈ r, 0 ≤ c.2 ∧ c.2 < 512
end L2
namespace L2
open PySem PySem.Spec PyProof.Rows
noncomputable def kc : W → Option V
  | .d (.int i) => some (.int i)
  | .d (.bool b) => some (.bl b)
  | .own a => some (.ref a)
  | _ => none
noncomputable def vm : List W → Option (List V)
  | [] => some []
  | w :: ws => match kc w, vm ws with
    | some v, some vs => some (v :: vs)
    | _, _ => none
noncomputable def qE (vs : List V) : HO → Hp → Prop := fun o _ => o = .tup vs
noncomputable def yL (n : Nat) : HO → Hp → Prop := fun o _ => ∃ kvs, o = .dT kvs ∧ kvs.length ≤ n
noncomputable def uu (n : Nat) : HO → Hp → Prop := fun o _ => ∃ kvs, o = .dT kvs ∧ kvs.length ≤ n ∧ qq (kvs.map (·.1))
section
variable {K : PySem.W.Frag}
theorem Yk {Γ : Gh} {w : W} {v u : V} (e : kc w = some u) (r : relW K Γ w v) : v = u := by
  cases w with
  | d x =>
    cases x with
    | int i => cases e; exact r
    | bool b => cases e; exact r
    | _ => cases e
  | own a => cases e; exact r
  | row a i => cases e
theorem Zo {Γ : Gh} {ws : List W} {vs : List V} (r : relWs K Γ ws vs) : ∀ {us : List V}, vm ws = some us → vs = us := by
  induction r with
  | nil => intro us e; cases e; rfl
  | cons h t ih =>
    rename_i w v ws vs
    intro us e
    simp only [vm] at e
    cases h1 : kc w with
    | none => rw [h1] at e; cases e
    | some u =>
      cases h2 : vm ws with
      | none => rw [h1, h2] at e; cases e
      | some us' =>
        rw [h1, h2] at e
        cases e
        rw [Yk h1 h, ih h2]
theorem Sim.raw {Γ : Gh} {O : OM} {H : Hp} (S : Sim K Γ O H) {a : Addr} {p : HO → Hp → Prop} (h : O a = some (.raw p)) : ∃ o, H a = some o ∧ p o Γ.Z := by
  obtain ⟨_, o, h1, h2⟩ := S.o _ _ h
  exact ⟨o, h1, h2 _ (Same.refl _)⟩
theorem Sim.newRaw {Γ : Gh} {O : OM} {H : Hp} (S : Sim K Γ O H) {a : Addr} {o : HO} {p : HO → Hp → Prop} (h : H a = none) (hp : ∀ Z, p o Z) : O a = none ∧ Sim K Γ (updO O a (.raw p)) (upd H a o) :=
  ⟨(S.free h).2.1, S.newO h (by intro _ h; cases h) ⟨o, zh, fun Z _ => hp Z⟩⟩
theorem Sim.putRaw {Γ : Gh} {O : OM} {H : Hp} (S : Sim K Γ O H) {a : Addr} {o : HO} {p q : HO → Hp → Prop} (h : O a = some (.raw q)) (hp : ∀ Z, p o Z) : Sim K Γ (updO O a (.raw p)) (upd H a o) :=
  S.put h (by intro _ h; cases h) (by intro _ h; cases h) ⟨o, zh, fun Z _ => hp Z⟩
noncomputable def Xh (t : TA) : TE := u9 t
theorem jx {X : Cx} {es : List Expr} {t : TA} {pos : Pos} {k : Nat} (h : QA X es t) : PE X (.Tuple es k pos) (Xh t) := qa h.pa
noncomputable def Xi (T : TAW) : TEW := fun ρ O R => T ρ O fun ws O1 => ∃ vs, vm ws = some vs ∧ vs.length ≤ 1000 ∧ ∀ p, O1 p = none → R (.own p) (updO O1 p (.raw (qE vs)))
theorem Yl {t : TA} {T : TAW} (h : yn K t T) : zl K (Xh t) (Xi T) := by
  intro Γ O H ρ σ S r0 Q R hT k
  refine h Γ O H ρ σ S r0 _ _ hT fun Γ1 O1 H1 ws vs l1 S1 rs h1 => ?_
  obtain ⟨us, e, hl, h1⟩ := h1
  cases Zo rs e
  refine ⟨xu hl, fun p hp => ?_⟩
  obtain ⟨q1, q2⟩ := S1.newRaw (p := qE vs) (o := .tup vs) hp fun Z => rfl
  exact k _ _ _ _ _ l1 q2 ye (h1 p q1)
noncomputable def Zp : TEW := fun ρ O R => ∀ p, O p = none → R (.own p) (updO O p (.raw (yL 0)))
theorem Zq : zl K kU Zp := by
  intro Γ O H ρ σ S r0 Q R hT k p hp
  obtain ⟨q1, q2⟩ := S.newRaw (p := yL 0) (o := .dT []) hp fun Z => ⟨[], rfl, Nat.le_refl _⟩
  exact k _ _ _ _ _ (Le.refl _) q2 ye (hT p q1)
noncomputable def CellW (O : OM) (r c : Nat) (b : Addr) : Prop := O b = some (.raw (qE [.int (r : Int), .int (c : Int)]))
noncomputable def UP (Ty Td : TEW) : TEW := fun ρ O R => Ty ρ O fun y O1 => Td ρ O1 fun x O2 => ∃ a b n r c, y = .own b ∧ x = .own a ∧ CellW O2 r c b ∧ O2 a = some (.raw (yL n)) ∧ ∀ t, R (.d (.bool t)) O2
theorem Vf {ty td : TE} {Ty Td : TEW} (hy : zl K ty Ty) (hd : zl K td Td) : zl K (VT ty td) (UP Ty Td) := by
  intro Γ O H ρ σ S r0 Q R hT k
  refine hy _ _ _ _ _ S r0 _ _ hT fun Γ1 O1 H1 y v l1 S1 ry h1 => ?_
  refine hd _ _ _ _ _ S1 (r0.mono l1) _ _ h1 fun Γ2 O2 H2 x u l2 S2 rx h2 => ?_
  obtain ⟨a, b, n, r, c, rfl, rfl, hb, ha, h2⟩ := h2
  cases (show u = .ref a from rx)
  cases (show v = .ref b from ry)
  obtain ⟨o, ho, kvs, rfl, hk⟩ := S2.raw ha
  obtain ⟨o2, ho2, hp⟩ := S2.raw hb
  cases (show o2 = _ from hp)
  exact ⟨a, _, rfl, vJ.t (k := y7 r c) ho ho2, k _ _ _ _ _ (l1.trans l2) S2 yW (h2 _)⟩
noncomputable def PairW (O : OM) (r : Nat) (w : W) : Prop := ∃ t b c, w = .own t ∧ O t = some (.raw (qE [.ref b, .bl true])) ∧ CellW O r c b ∧ c < 24
theorem vx : ∀ (more kvs : List (List Key × V)) (k : List Key), k ∈ (yu kvs more).map (·.1) → k ∈ kvs.map (·.1) ∨ k ∈ more.map (·.1)
  | [], kvs, k, h => .inl h
  | p :: r, kvs, k, h => by
    rcases vx r (yg kvs p.1 p.2) k h with h | h
    · unfold yg at h
      split at h
      · rw [List.map_map] at h
        obtain ⟨z, hz, e⟩ := List.mem_map.1 h
        refine .inl (List.mem_map.2 ⟨z, hz, ?_⟩)
        simp only [Function.comp] at e
        split at e <;> exact e
      · rw [List.map_append] at h
        rcases List.mem_append.1 h with h | h
        · exact .inl h
        · simp only [List.map_cons, List.map_nil, List.mem_singleton] at h
          exact .inr (by rw [h]; exact List.mem_cons_self)
    · exact .inr (List.mem_cons_of_mem _ h)
noncomputable def Zr : List W → OM → WK → Prop := fun xs O R => ∃ a ws r, xs = [.own a] ∧ O a = some (.lst ws) ∧ r < 12 ∧ ws.length ≤ 1000 ∧ (∀ w ∈ ws, PairW O r w) ∧ ∀ p, O p = none → R (.own p) (updO O p (.raw (uu ws.length)))
theorem Vg {Γ : Gh} {O : OM} {H : Hp} (S : Sim K Γ O H) {r : Nat} {ws : List W} {vs : List V} (h : relWs K Γ ws vs) : (∀ w ∈ ws, PairW O r w) → ∃ kvs, kX K H vs kvs ∧ kvs.length = ws.length ∧ ∀ k ∈ kvs.map (·.1), ∃ c, c < 24 ∧ k = y7 r c := by
  induction h with
  | nil => exact fun _ => ⟨[], .nil, rfl, fun k h => by simp at h⟩
  | cons h t ih =>
    intro hw
    obtain ⟨kvs, q1, q2, q3⟩ := ih fun w m => hw w (List.mem_cons_of_mem _ m)
    obtain ⟨t, b, c, rfl, ht, hb, hc⟩ := hw _ List.mem_cons_self
    obtain ⟨o, ho, hp⟩ := S.raw ht
    cases (show o = _ from hp)
    obtain ⟨o2, ho2, hp2⟩ := S.raw hb
    cases (show o2 = _ from hp2)
    refine ⟨(y7 r c, .bl true) :: kvs, .cons ⟨t, b, h, SqT.of ho, ho2⟩ q1, by simp [q2], fun k hk => ?_⟩
    rw [List.map_cons] at hk
    rcases List.mem_cons.1 hk with e | hk
    · exact ⟨c, hc, e⟩
    · exact q3 k hk
theorem Vh : RefC K (qr K) Zr := by
  rintro Γ O H xs vs S rs Q R ⟨a, ws, r, rfl, ha, hr, hl, hw, h⟩ k
  obtain ⟨_, us, h1, h2⟩ := S.o _ _ ha
  obtain ⟨kvs, q1, q2, q3⟩ := Vg S h2 hw
  cases rs with
  | cons ra rn =>
    cases rn
    cases (show _ = _ from ra)
    refine ⟨a, us, kvs, rfl, SqL.of h1, q1, by omega, fun p hp => ?_⟩
    obtain ⟨g1, g2⟩ := S.newRaw (p := uu ws.length) (o := .dT (yu [] kvs)) hp fun Z => ⟨_, rfl, by have := yc kvs []; simp at this; omega, r, hr, fun k hk => q3 k ((vx kvs [] k hk).resolve_left (by simp))⟩
    exact k _ _ _ _ _ (Le.refl _) g2 ye (h p g1)
noncomputable def kd : W → List W → OM → WK → Prop := fun x xs O R => ∃ a b n m, x = .own a ∧ xs = [.own b] ∧ O a = some (.raw (yL n)) ∧ O b = some (.raw (uu m)) ∧ a ≠ b ∧ n + m ≤ 1000 ∧ R (.d .none) (updO O a (.raw (yL (n + m))))
theorem UQ : RefM K "dict" xF kd := by
  rintro Γ O H x v xs vs S rx rs Q R ⟨a, b, n, m, rfl, rfl, ha, hb, hab, hl, h⟩ k
  cases rs with
  | cons rb rn =>
    cases rn
    cases (show _ = _ from rb)
    cases (show v = _ from rx)
    obtain ⟨o, ho, kvs, rfl, hk⟩ := S.raw ha
    obtain ⟨o2, ho2, more, rfl, hm, hrow⟩ := S.raw hb
    have := yc more kvs
    refine ⟨a, b, kvs, more, rfl, rfl, ho, ho2, hab, hrow, by omega, k _ _ _ _ _ (Le.refl _) (S.putRaw (p := yL (n + m)) ha fun Z => ⟨_, rfl, by omega⟩) yP h⟩
noncomputable def Xj (To : TEW) (Ta : TAW) : TEW := fun ρ O R => To ρ O fun x O1 => (∃ a n, x = .own a ∧ O1 a = some (.raw (yL n))) ∧ Ta ρ O1 fun xs O2 => kd x xs O2 R
theorem Ym {to : TE} {To : TEW} {t : TA} {Ta : TAW} (ho : zl K to To) (ha : yn K t Ta) : zl K (tBM K "dict" xF to t) (Xj To Ta) := by
  intro Γ O H ρ σ S r0 Q R hT k
  refine ho _ _ _ _ _ S r0 _ _ hT fun Γ1 O1 H1 x v l1 S1 rx h1 => ?_
  obtain ⟨⟨a, n, rfl, hb⟩, h1⟩ := h1
  obtain ⟨o, ho, kvs, rfl, _⟩ := S1.raw hb
  cases (show v = .ref a from rx)
  refine ⟨?_, ha _ _ _ _ _ S1 (r0.mono l1) _ _ h1 fun Γ2 O2 H2 ws vs l2 S2 rs h2 => ?_⟩
  · first
      | exact .inr ⟨a, rfl, .inl ⟨rfl, .inr ⟨_, ho⟩⟩⟩
      | (unfold tyV; simp [ho])
  · exact UQ _ _ _ _ _ _ _ S2 (rx.mono l2) rs _ _ h2 fun Γ3 O3 H3 w u l3 => k _ _ _ _ _ ((l1.trans l2).trans l3)
noncomputable def UR (K : PySem.W.Frag) : R2 := jM K
theorem US {X : Cx} (h : X.K = K) (hu : X.A.units + 64 < cLine) : OpR X (compareOp .Eq) (UR K) := qz h hu
noncomputable def UT : R2W := fun x y O R => ∃ a ws, x = .own a ∧ O a = some (.lst ws) ∧ (∀ w ∈ ws, ∃ r c b, w = .own b ∧ CellW O r c b) ∧ y = .d (.list []) ∧ R (.d (.bool ws.isEmpty)) O
theorem Zs {Γ : Gh} {O : OM} {H : Hp} (S : Sim K Γ O H) {ws : List W} {vs : List V} (h : relWs K Γ ws vs) : (∀ w ∈ ws, ∃ r c b, w = .own b ∧ CellW O r c b) → ∃ l : List (Int × Int), Reps K H (l.map y6) vs ∧ l.isEmpty = ws.isEmpty := by
  induction h with
  | nil => exact fun _ => ⟨[], rfl, rfl⟩
  | cons h t ih =>
    intro hw
    obtain ⟨l, q1, q3⟩ := ih fun w m => hw w (List.mem_cons_of_mem _ m)
    obtain ⟨r, c, b, rfl, hb⟩ := hw _ List.mem_cons_self
    obtain ⟨o, ho, hp⟩ := S.raw hb
    cases (show o = _ from hp)
    exact ⟨((r : Int), (c : Int)) :: l, ⟨_, _, rfl, ⟨b, _, h, SqT.of ho, ⟨_, _, rfl, rfl, ⟨_, _, rfl, rfl, rfl⟩⟩⟩, q1⟩, rfl⟩
theorem Qq : RefR K (UR K) UT := by
  rintro Γ O H x y v u S rx ry Q R ⟨a, ws, rfl, ha, hw, rfl, h⟩ k
  obtain ⟨_, us, h1, h2⟩ := S.o _ _ ha
  obtain ⟨l, q1, q2⟩ := Zs S h2 hw
  cases (show v = .ref a from rx)
  have e : PyData.eqv (.list (l.map y6)) (.list []) = ws.isEmpty := by
    rw [← q2]
    cases l <;> rfl
  refine ⟨.list (l.map y6), .list [], ⟨a, us, rfl, SqL.of h1, q1⟩, Rep.same S.z _ _ ry, uQ l, by rfl, ?_⟩
  rw [e]
  exact k _ _ _ _ _ (Le.refl _) S yW h
theorem Yn {X : Cx} (h : X.K = K) (hc : X.calm = true) (hu : X.A.units + 64 < cLine) : zY X (.type "dict") (qr K) := by
  subst h
  exact jQ hc (by omega)
theorem UU {X : Cx} (hu : X.A.units + 64 < cLine) : MtR X "dict.update" xF := jP (by omega)
theorem Sim.freezeDeep {Γ : Gh} {O : OM} {H : Hp} (S : Sim K Γ O H) {a : Addr} {ws : List W} {ds : List PyData} (h : O a = some (.lst ws)) (hd : zR O ws = some ds) (nd : ws.Nodup) (na : W.own a ∉ ws) :
    ∃ Γ' O', Le Γ Γ' ∧ Sim K Γ' O' H ∧ relW K Γ' (.d (.list ds)) (.ref a) ∧ ∀ b, b ≠ a → W.own b ∉ ws → O' b = O b := by
  obtain ⟨_, vs, h1, h2⟩ := S.o _ _ h
  obtain ⟨Γ1, O1, l1, S1, r1, k1⟩ := Sim.freezeItems (Γ := Γ) (O := O) S h2 hd nd
  have e1 : O1 a = some (.lst ws) := (k1 a na).trans h
  have eH : upd H a (.lst vs) = H := by
    funext b
    unfold upd
    split
    · rename_i e; rw [e]; exact h1.symm
    · rfl
  have S2 : Sim K Γ1 (updO O1 a (.lst (ds.map .d))) (upd H a (.lst vs)) := S1.put e1 (by intro _ h; cases h) (by intro _ h; cases h) ⟨vs, zh, zD r1⟩
  rw [eH] at S2
  obtain ⟨Γ2, l2, S3, r3⟩ := S2.freeze zc
  refine ⟨Γ2, _, l1.trans l2, S3, r3, fun b hb hn => ?_⟩
  rw [yi hb, zf hb, k1 b hn]
noncomputable def Xk (t : TA) : TE := u9 t
theorem Vi {X : Cx} {es : List Expr} {t : TA} {pos : Pos} {k : Nat} (h : QA X es t) : PE X (.Tuple es k pos) (Xk t) := qa h.pa
noncomputable def Xl (T : TAW) : TEW := fun ρ O R => T ρ O fun ws O1 => ∃ a us ds e, ws = [.own a, .d e] ∧ O1 a = some (.lst us) ∧ zR O1 us = some ds ∧ us.Nodup ∧ W.own a ∉ us ∧ ∀ O2, (∀ b, b ≠ a → W.own b ∉ us → O2 b = O1 b) → R (.d (.tuple [.list ds, e])) O2
theorem Yo {t : TA} {T : TAW} (h : yn K t T) : zl K (Xk t) (Xl T) := by
  intro Γ O H ρ σ S r0 Q R hT k
  refine h Γ O H ρ σ S r0 _ _ hT fun Γ1 O1 H1 ws vs l1 S1 rs h1 => ?_
  obtain ⟨a, us, ds, e, rfl, ha, hd, nd, na, h1⟩ := h1
  obtain ⟨Γ2, O2, l2, S2, r2, k2⟩ := S1.freezeDeep ha hd nd na
  cases rs with
  | cons ra rn =>
    cases rn with
    | cons re rz =>
      cases rz
      cases (show _ = _ from ra)
      refine ⟨by rw [sizeLine_eq]; simp, fun p hp => ?_⟩
      obtain ⟨Γ', l, S', r'⟩ := qt (ds := [.list ds, e]) S2 ⟨_, _, rfl, r2, _, _, rfl, (re.mono l2), rfl⟩ hp
      exact k _ _ _ _ _ ((l1.trans l2).trans l) S' r' (h1 O2 k2)
end
end L2
namespace L2
open PySem PySem.Spec PyProof.Rows
noncomputable abbrev Pic6 := List Rw6
noncomputable def rowsC (p : Pic6) : PyData := .list (p.map rowC)
structure OkP (w h : Nat) (p : Pic6) : Prop where
  len : p.length = h
  row : ∀ r ∈ p, r.length = w ∧ okR r
noncomputable def sRow7 : SpW := fun ws O R => ∃ n w : Int, ws = [.d (.int n), .d (.int w)] ∧ 0 ≤ n ∧ n < 1000000000000 ∧ 1 ≤ w ∧ w ≤ 24 ∧ ∀ r : Rw6, ∀ O', r.length = w.toNat → okR r → Old O O' → R (.d (rowC r)) O'
noncomputable def sPic7 : SpW := fun ws O R => ∃ ns : List Int, ∃ first w h : Nat, ws = [.d (.list (ns.map .int)), .d (.int first), .d (.int w), .d (.int h)] ∧ first ≤ 10 ∧ 1 ≤ w ∧ w ≤ 24 ∧ 1 ≤ h ∧ h ≤ 12 ∧ ∀ p O', OkP w h p → Old O O' → R (.d (rowsC p)) O'
theorem Old.nn {O O' : OM} {b : Addr} (h : Old O O') (hb : O' b = none) : O b = none := by
  cases e : O b with
  | none => rfl
  | some x => rw [h b (by rw [e]; simp), e] at hb; cases hb
theorem Old.trans {O O1 O2 : OM} (h : Old O O1) (h' : Old O1 O2) : Old O O2 := fun b hb => by
  rw [h' b (by rw [h b hb]; exact hb), h b hb]
noncomputable def ue : Cel := (⟨#[32]⟩, 0)
noncomputable def zG (w : Nat) : Rw6 := List.replicate w ue
theorem uL (w : Nat) : okR (zG w) := fun c hc => ⟨32, by decide, by decide, by rw [List.eq_of_mem_replicate hc]; rfl⟩
theorem uf (w : Nat) : (zG w).map zw = List.replicate w (.tuple [.str (Str.ofString " "), .int 0]) := by
  unfold zG
  rw [List.map_replicate]
  rfl
theorem Yp {n : Nat} : ∀ {ds : List PyData}, (∀ d ∈ ds, PyData.canLay0 d = true ∧ PyData.depth d ≤ n ∧ PyData.eqv d d = true) → PyData.canLayAll0 ds = true ∧ PyData.depthAll ds ≤ n ∧ PyData.eqvAll ds ds = true
  | [], _ => by simp [PyData.canLayAll0, PyData.depthAll, PyData.eqvAll]
  | d :: ds, h => by
    obtain ⟨a1, a2, a3⟩ := h d List.mem_cons_self
    obtain ⟨b1, b2, b3⟩ := Yp (n := n) (ds := ds) fun x hx => h x (List.mem_cons_of_mem _ hx)
    simp [PyData.canLayAll0, PyData.depthAll, PyData.eqvAll, a1, a3, b1, b3]
    omega
theorem ke {n : Nat} {ds : List PyData} (h : ∀ d ∈ ds, PyData.canLay0 d = true ∧ PyData.depth d ≤ n ∧ PyData.eqv d d = true) : PyData.canLay0 (.list ds) = true ∧ PyData.depth (.list ds) ≤ n + 1 ∧ PyData.eqv (.list ds) (.list ds) = true := by
  obtain ⟨a, b, c⟩ := Yp h
  simp [PyData.canLay0, PyData.depth, PyData.eqv, a, c]
  omega
theorem Qr {n : Nat} {ds : List PyData} (h : ∀ d ∈ ds, PyData.canLay0 d = true ∧ PyData.depth d ≤ n ∧ PyData.eqv d d = true) : PyData.canLay0 (.tuple ds) = true ∧ PyData.depth (.tuple ds) ≤ n + 1 ∧ PyData.eqv (.tuple ds) (.tuple ds) = true := by
  obtain ⟨a, b, c⟩ := Yp h
  simp [PyData.canLay0, PyData.depth, PyData.eqv, a, c]
  omega
theorem ug {n : Nat} {d : PyData} (h : PyData.canLay0 d = true ∧ PyData.depth d ≤ n ∧ PyData.eqv d d = true) (hn : n ≤ 50) : SeqAt.shaped d = true := by
  simp only [SeqAt.shaped, h.1, Bool.true_and, decide_eq_true_eq]
  omega
theorem Qs {c : Cel} (h : Uz c) : PyData.canLay0 (zw c) = true ∧ PyData.depth (zw c) ≤ 3 ∧ PyData.eqv (zw c) (zw c) = true := by
  obtain ⟨k, k0, k1, e⟩ := h
  have : PyData.strOk c.1 = true := by
    rw [e]
    unfold PyData.strOk
    simp
    omega
  simp [zw, PyData.canLay0, PyData.canLayAll0, PyData.depth, PyData.depthAll, PyData.eqv, PyData.eqvAll, this]
theorem QK {r : Rw6} (h : okR r) : PyData.canLay0 (rowC r) = true ∧ PyData.depth (rowC r) ≤ 4 ∧ PyData.eqv (rowC r) (rowC r) = true :=
  ke fun d hd => by obtain ⟨c, hc, rfl⟩ := List.mem_map.1 hd; exact Qs (h c hc)
theorem kf {p : Pic6} (h : ∀ r ∈ p, okR r) : PyData.canLay0 (rowsC p) = true ∧ PyData.depth (rowsC p) ≤ 5 ∧ PyData.eqv (rowsC p) (rowsC p) = true :=
  ke fun d hd => by obtain ⟨c, hc, rfl⟩ := List.mem_map.1 hd; exact QK (h c hc)
theorem uY {p : Pic6} (h : ∀ r ∈ p, okR r) : SeqAt.shaped (rowsC p) = true := ug (kf h) (by decide)
theorem Yq (p : Pic6) : PyData.eqv (rowsC p) (.list []) = p.isEmpty := by
  cases p <;> rfl
theorem kh (w : Nat) : PyData.list (Yj (w : Int) [.tuple [.str (Str.ofString " "), .int 0]]) = rowC (zG w) := by
  unfold Yj rowC
  rw [uf, Int.toNat_natCast]
  congr 1
  induction w with
  | zero => rfl
  | succ w ih => rw [List.replicate_succ, List.flatten_cons, ih, List.replicate_succ]; rfl
theorem UV {pc : Pic6} {k : Int} (h0 : 0 ≤ k) (h1 : k < pc.length) : ∃ r ∈ pc, atI ((pc.map rowC).map W.d) k = some (.d (rowC r)) := by
  obtain ⟨n, rfl⟩ := Int.eq_ofNat_of_zero_le h0
  have hn : n < pc.length := by omega
  refine ⟨pc[n], List.getElem_mem hn, xt ?_⟩
  rw [List.getElem?_map, List.getElem?_map, List.getElem?_eq_getElem hn]
  rfl
theorem yf {α : Type} {xs : List α} {n : Nat} : xj xs none (some (n : Int)) = xs.take n := by
  unfold xj
  rw [HT.sIx_none, HT.sIx_nat, List.drop_zero, Nat.sub_zero]
  rcases Nat.le_total n xs.length with h | h
  · rw [Nat.min_eq_left h]
  · rw [Nat.min_eq_right h, List.take_length, List.take_of_length_le h]
theorem yQ {α : Type} {xs : List α} {n : Nat} : xj xs (some (n : Int)) none = xs.drop n := by
  unfold xj
  rw [HT.sIx_none, HT.sIx_nat]
  rcases Nat.le_total n xs.length with h | h
  · rw [Nat.min_eq_left h, List.take_of_length_le (by rw [List.length_drop]; omega)]
  · rw [Nat.min_eq_right h, List.drop_length, List.drop_eq_nil_of_le h]
    simp
noncomputable def yb (O : OM) (b : Addr) (r : Rw6) : Prop := O b = some (.lst ((r.map zw).map .d))
noncomputable abbrev Rws (O : OM) : List Addr → Pic6 → Prop := Paired (yb O)
theorem yb.old {O O' : OM} {b : Addr} {r : Rw6} (h : yb O b r) (ho : Old O O') : yb O' b r := by
  unfold yb at *
  rw [ho b (by rw [h]; simp)]
  exact h
theorem Rws.old {O O' : OM} {bs : List Addr} {p : Pic6} (h : Rws O bs p) (ho : Old O O') : Rws O' bs p := Paired.mapP h fun _ _ z => z.old ho
noncomputable def zn (O : OM) (a : Addr) (bs : List Addr) (p : Pic6) : Prop := O a = some (.lst (bs.map W.own)) ∧ Rws O bs p
theorem zn.old {O O' : OM} {a : Addr} {bs : List Addr} {p : Pic6} (h : zn O a bs p) (ho : Old O O') : zn O' a bs p := ⟨by rw [ho a (by rw [h.1]; simp)]; exact h.1, Rws.old h.2 ho⟩
theorem zn.new {O : OM} {a : Addr} {bs : List Addr} {p : Pic6} (h : Rws O bs p) (ha : O a = none) : zn (updO O a (.lst (bs.map W.own))) a bs p := ⟨zc, Rws.old h (Old.refl.upd ha)⟩
theorem zn.len {O : OM} {a : Addr} {bs : List Addr} {p : Pic6} (h : zn O a bs p) : bs.length = p.length := Paired.length h.2
theorem zn.seq {O : OM} {a : Addr} {bs : List Addr} {p : Pic6} (h : zn O a bs p) : zj O (.own a) = some (bs.map W.own) := by simp only [zj, h.1]
theorem zn.lenW {O : OM} {a : Addr} {bs : List Addr} {p : Pic6} (h : zn O a bs p) : lenW O (.own a) = some p.length := by simp [L2.lenW, z0, zj, h.1, h.len]
theorem yb.seqD {O : OM} {b : Addr} {r : Rw6} (h : yb O b r) : seqD O (.own b) = some (r.map zw) := by simp only [L2.seqD, z0, zj, show O b = _ from h, Option.bind_some, zQ]
theorem yb.lenW {O : OM} {b : Addr} {r : Rw6} (h : yb O b r) : lenW O (.own b) = some r.length := by simp [L2.lenW, z0, zj, show O b = _ from h]
theorem Rws.items {O : OM} {bs : List Addr} {p : Pic6} (h : Rws O bs p) : zR O (bs.map W.own) = some (p.map rowC) := by
  induction h with
  | nil => rfl
  | cons a t ih =>
    simp only [List.map_cons, zR, xa, show O _ = _ from a, zQ, Option.map_some, ih]
    rfl
theorem zn.deep {O : OM} {a : Addr} {bs : List Addr} {p : Pic6} (h : zn O a bs p) : yD O (.own a) = some (rowsC p) := by
  simp only [yD, h.1, Rws.items h.2, Option.map_some]
  rfl
theorem zn.at {O : OM} {a : Addr} {bs : List Addr} {p : Pic6} (h : zn O a bs p) {i : Nat} (hi : i < p.length) : ∃ b, bs[i]? = some b ∧ atI (bs.map W.own) (i : Int) = some (.own b) ∧ yb O b (p[i]'hi) := by
  obtain ⟨b, hb, hr⟩ := Paired.getQ h.2 (List.getElem?_eq_getElem hi)
  exact ⟨b, hb, xt (by rw [List.getElem?_map, hb]; rfl), hr⟩
noncomputable def x5 (O : OM) (x : W) (p : Pic6) : Prop := x = .d (rowsC p) ∨ ∃ a bs, x = .own a ∧ zn O a bs p
theorem x5.old {O O' : OM} {x : W} {p : Pic6} (h : x5 O x p) (ho : Old O O') : x5 O' x p := by
  rcases h with h | ⟨a, bs, h, q⟩
  · exact .inl h
  · exact .inr ⟨a, bs, h, q.old ho⟩
theorem x5.seq {O : OM} {x : W} {p : Pic6} (h : x5 O x p) : ∃ ws : List W, ws.length = p.length ∧ (∀ O', Old O O' → zj O' x = some ws) ∧ ∀ (i : Nat) (w : W), ws[i]? = some w → ∃ r : Rw6, p[i]? = some r ∧ ∀ O', Old O O' → seqD O' w = some (r.map zw) := by
  rcases h with rfl | ⟨a, bs, rfl, q⟩
  · refine ⟨(p.map rowC).map .d, by simp, fun _ _ => rfl, fun i w e => ?_⟩
    rw [List.getElem?_map, List.getElem?_map] at e
    cases hr : p[i]? with
    | none => rw [hr] at e; cases e
    | some r =>
      rw [hr] at e
      cases e
      exact ⟨r, rfl, fun _ _ => by simp only [seqD, z0, zj, rowC, Option.bind_some, zQ]⟩
  · refine ⟨bs.map W.own, by rw [List.length_map, q.len], fun O' ho => (q.old ho).seq, fun i w e => ?_⟩
    rw [List.getElem?_map] at e
    cases hb : bs[i]? with
    | none => rw [hb] at e; cases e
    | some b =>
      rw [hb] at e
      cases e
      obtain ⟨r, hr, q2⟩ := Paired.getP q.2 hb
      exact ⟨r, hr, fun O' ho => (q2.old ho).seqD⟩
noncomputable def cutP (w : Nat) (p : Pic6) (r m : Nat) : Pic6 := p.take r ++ p.drop (r + m) ++ List.replicate m (zG w)
noncomputable def putP (w : Nat) (p : Pic6) (r m : Nat) : Pic6 := (p.take r ++ List.replicate m (zG w) ++ p.drop r).take p.length
noncomputable def wrR (r : Rw6) (c : Nat) (t : Str) (ink : Int) : Rw6 := (r.take c ++ (t.cps.toList.map fun k => ((⟨#[k]⟩ : Str), ink)) ++ r.drop (c + t.length)).take r.length
noncomputable def vn : SpW := fun ws O R => ∃ w : Nat, ws = [.d (.int w), .d (.int 0)] ∧ w ≤ 24 ∧ ∀ p, O p = none → R (.own p) (updO O p (.lst (((zG w).map zw).map .d)))
theorem qF {O : OM} {bs : List Addr} {q : Addr} (hf : ∀ b ∈ bs, O b = none) (hq : O q = none) : ∀ b ∈ bs ++ [q], O b = none := fun b hb => by
  rcases List.mem_append.1 hb with hb | hb
  · exact hf b hb
  · cases List.mem_singleton.1 hb
    exact hq
theorem Zt {O : OM} {bs cs : List Addr} {r k : Nat} (hf : ∀ c ∈ cs, O c = none) : ∀ c ∈ bs.take r ++ bs.drop k ++ cs, c ∈ bs ∨ O c = none := fun c hc => by
  rcases List.mem_append.1 hc with hc | hc
  · rcases List.mem_append.1 hc with hc | hc
    · exact .inl (List.mem_of_mem_take hc)
    · exact .inl (List.mem_of_mem_drop hc)
  · exact .inr (hf c hc)
theorem Zu {O : OM} {bs cs : List Addr} {r n : Nat} (hf : ∀ c ∈ cs, O c = none) : ∀ c ∈ (bs.take r ++ cs ++ bs.drop r).take n, c ∈ bs ∨ O c = none := fun c hc => by
  rcases List.mem_append.1 (List.mem_of_mem_take hc) with hc | hc
  · rcases List.mem_append.1 hc with hc | hc
    · exact .inl (List.mem_of_mem_take hc)
    · exact .inr (hf c hc)
  · exact .inl (List.mem_of_mem_drop hc)
noncomputable def xI : SpW := fun ws O R => ∃ w m : Nat, ws = [.d (.int w), .d (.int m)] ∧ w ≤ 24 ∧ m ≤ 12 ∧ ∀ p bs O', zn O' p bs (List.replicate m (zG w)) → Old O O' → (∀ b ∈ bs, O b = none) → R (.own p) O'
noncomputable def xJ : SpW := fun ws O R => ∃ x, ∃ p : Pic6, ws = [x] ∧ x5 O x p ∧ p.length ≤ 12 ∧ (∀ r ∈ p, r.length ≤ 24) ∧ ∀ q bs O', zn O' q bs p → Old O O' → bs.Nodup → q ∉ bs → O q = none → (∀ b ∈ bs, O b = none) → R (.own q) O'
noncomputable def vp : SpW := fun ws O R => ∃ a bs, ∃ p : Pic6, ∃ w h r m : Nat, ws = [.own a, .d (.int r), .d (.int m)] ∧ zn O a bs p ∧ OkP w h p ∧ w ≤ 24 ∧ h ≤ 12 ∧ 1 ≤ m ∧ r + m ≤ h ∧ ∀ q cs O', zn O' q cs (cutP w p r m) → Old O O' → O q = none → (∀ c ∈ cs, c ∈ bs ∨ O c = none) → R (.own q) O'
noncomputable def vq : SpW := fun ws O R => ∃ a bs, ∃ p : Pic6, ∃ w h r m : Nat, ws = [.own a, .d (.int r), .d (.int m)] ∧ zn O a bs p ∧ OkP w h p ∧ w ≤ 24 ∧ h ≤ 12 ∧ 1 ≤ m ∧ r + m ≤ h ∧ ∀ q cs O', zn O' q cs (putP w p r m) → Old O O' → O q = none → (∀ c ∈ cs, c ∈ bs ∨ O c = none) → R (.own q) O'
noncomputable def Yr : SpW := fun ws O R => ∃ b, ∃ r : Rw6, ∃ c : Nat, ∃ t : Str, ∃ ink : Int, ws = [.own b, .d (.int c), .d (.str t), .d (.int ink)] ∧ yb O b r ∧ r.length ≤ 24 ∧ (∀ k ∈ t.cps.toList, 32 ≤ k ∧ k ≤ 126) ∧ c + t.length ≤ r.length ∧ ∀ q O', O q = none → yb O' q (wrR r c t ink) → Old O O' → R (.own q) O'
theorem uh (w : Nat) : (List.replicate w (List.map W.d [PyData.tuple [.str (Str.ofString " "), .int 0]])).flatten = ((zG w).map zw).map W.d := by
  rw [uf]
  induction w with
  | zero => rfl
  | succ w ih => rw [List.replicate_succ, List.flatten_cons, ih, List.replicate_succ]; rfl
inductive Dd where
  | cut (r m : Nat)
  | put (r m : Nat)
  | wr (r c : Nat) (t : Str) (ink : Int)
noncomputable def ddD : Dd → PyData
  | .cut r m => .tuple [.str (Str.ofString "cut"), .int r, .int m]
  | .put r m => .tuple [.str (Str.ofString "put"), .int r, .int m]
  | .wr r c t ink => .tuple [.str (Str.ofString "write"), .int r, .int c, .str t, .int ink]
noncomputable def okDd (w h : Nat) : Dd → Prop
  | .cut r m => 1 ≤ m ∧ r + m ≤ h
  | .put r m => 1 ≤ m ∧ r + m ≤ h
  | .wr r c t _ => r < h ∧ c + t.length ≤ w ∧ ∀ k ∈ t.cps.toList, 32 ≤ k ∧ k ≤ 126
noncomputable def doD (w : Nat) (p : Pic6) : Dd → Pic6
  | .cut r m => cutP w p r m
  | .put r m => putP w p r m
  | .wr r c t ink => p.set r (wrR (p.getD r []) c t ink)
noncomputable def doW (w : Nat) (p : Pic6) (ds : List Dd) : Pic6 := ds.foldl (doD w) p
theorem UW {r : Rw6} {c : Nat} {t : Str} {ink : Int} (hr : okR r) (ht : ∀ k ∈ t.cps.toList, 32 ≤ k ∧ k ≤ 126) (hc : c + t.length ≤ r.length) : (wrR r c t ink).length = r.length ∧ okR (wrR r c t ink) := by
  have tl : t.cps.toList.length = t.length := rfl
  refine ⟨?_, fun x hx => ?_⟩
  · unfold wrR
    simp only [List.length_take, List.length_append, List.length_map, List.length_drop]
    omega
  · have hx := List.mem_of_mem_take hx
    rcases List.mem_append.1 hx with hx | hx
    · rcases List.mem_append.1 hx with hx | hx
      · exact hr x (List.mem_of_mem_take hx)
      · obtain ⟨k, hk, rfl⟩ := List.mem_map.1 hx
        exact ⟨k, (ht k hk).1, (ht k hk).2, rfl⟩
    · exact hr x (List.mem_of_mem_drop hx)
theorem OkP.get {w h : Nat} {p : Pic6} (hp : OkP w h p) {r : Nat} (hr : r < h) : ∃ x, p[r]? = some x ∧ p.getD r [] = x ∧ x.length = w ∧ okR x := by
  have hl := hp.len
  have hr' : r < p.length := by omega
  refine ⟨p[r], List.getElem?_eq_getElem hr', ?_, hp.row _ (List.getElem_mem hr')⟩
  rw [List.getD_eq_getElem?_getD, List.getElem?_eq_getElem hr']
  rfl
theorem OkP.do {w h : Nat} {p : Pic6} (hp : OkP w h p) {d : Dd} (hd : okDd w h d) : OkP w h (doD w p d) := by
  have hl := hp.len
  have hb : (zG w).length = w ∧ okR (zG w) := ⟨by simp [zG], uL w⟩
  cases d with
  | cut r m =>
    obtain ⟨h1, h2⟩ := hd
    refine ⟨?_, fun x hx => ?_⟩
    · show (cutP w p r m).length = h
      unfold cutP
      simp only [List.length_append, List.length_take, List.length_drop, List.length_replicate]
      omega
    · rcases List.mem_append.1 hx with hx | hx
      · rcases List.mem_append.1 hx with hx | hx
        · exact hp.row x (List.mem_of_mem_take hx)
        · exact hp.row x (List.mem_of_mem_drop hx)
      · rw [List.eq_of_mem_replicate hx]; exact hb
  | put r m =>
    obtain ⟨h1, h2⟩ := hd
    refine ⟨?_, fun x hx => ?_⟩
    · show (putP w p r m).length = h
      unfold putP
      simp only [List.length_append, List.length_take, List.length_drop, List.length_replicate]
      omega
    · have hx := List.mem_of_mem_take hx
      rcases List.mem_append.1 hx with hx | hx
      · rcases List.mem_append.1 hx with hx | hx
        · exact hp.row x (List.mem_of_mem_take hx)
        · rw [List.eq_of_mem_replicate hx]; exact hb
      · exact hp.row x (List.mem_of_mem_drop hx)
  | wr r c t ink =>
    obtain ⟨h1, h2, h3⟩ := hd
    obtain ⟨x, _, e, xl, xk⟩ := hp.get h1
    obtain ⟨q1, q2⟩ := UW (ink := ink) xk h3 (by omega : c + t.length ≤ x.length)
    refine ⟨by show (p.set _ _).length = h; rw [List.length_set]; exact hl, fun y hy => ?_⟩
    rcases List.mem_or_eq_of_mem_set hy with hy | rfl
    · exact hp.row y hy
    · rw [e]
      exact ⟨q1.trans xl, q2⟩
theorem OkP.way {w h : Nat} {p : Pic6} (hp : OkP w h p) {ds : List Dd} (hd : ∀ d ∈ ds, okDd w h d) : OkP w h (doW w p ds) := by
  induction ds generalizing p with
  | nil => exact hp
  | cons d ds ih => exact ih (hp.do (hd d List.mem_cons_self)) fun x hx => hd x (List.mem_cons_of_mem _ hx)
noncomputable def qG : SpW := fun ws O R => ∃ x, ∃ p : Pic6, ∃ w h : Nat, ∃ d : Dd, ws = [x, .d (ddD d)] ∧ x5 O x p ∧ OkP w h p ∧ w ≤ 24 ∧ 1 ≤ h ∧ h ≤ 12 ∧ okDd w h d ∧ ∀ q bs O', zn O' q bs (doD w p d) → Old O O' → R (.own q) O'
noncomputable def ki : SpW := fun ws O R => ∃ x, ∃ p : Pic6, ∃ w h : Nat, ∃ ds : List Dd, ws = [x, .d (.list (ds.map ddD))] ∧ x5 O x p ∧ OkP w h p ∧ w ≤ 24 ∧ 1 ≤ h ∧ h ≤ 12 ∧ ds.length ≤ 100 ∧ (∀ d ∈ ds, okDd w h d) ∧ ∀ q bs O', zn O' q bs (doW w p ds) → Old O O' → O q = none → (∀ b ∈ bs, O b = none) → R (.own q) O'
theorem yb.ne {O : OM} {b q : Addr} {r : Rw6} {bs : List Addr} (h : yb O b r) (hq : O q = some (.lst (bs.map W.own))) (hb : bs ≠ []) : b ≠ q := by
  rintro rfl
  rw [show O b = _ from h] at hq
  cases bs with
  | nil => exact hb rfl
  | cons x xs => cases r <;> simp at hq
theorem zn.setO {O : OM} {q : Addr} {bs : List Addr} {p : Pic6} (h : zn O q bs p) {r : Nat} (hr : r < p.length) (w : W) : vL O (.own q) (r : Int) w = some (updO O q (.lst ((bs.map W.own).set r w))) := by
  have hl := h.len
  simp only [vL, h.1]
  rw [jt (by omega) (by rw [List.length_map]; omega)]
  rfl
theorem zn.put {O : OM} {q b : Addr} {bs : List Addr} {p : Pic6} (h : zn O q bs p) {r : Nat} {s : Rw6} (hr : r < p.length) (hb : yb O b s) : zn (updO O q (.lst ((bs.map W.own).set r (.own b)))) q (bs.set r b) (p.set r s) := by
  have hl := h.len
  have hne : bs ≠ [] := fun e => by rw [e] at hl; simp at hl; omega
  refine ⟨by rw [zc, List.map_set], ?_⟩
  have far : ∀ c x, yb O c x → yb (updO O q (.lst ((bs.map W.own).set r (.own b)))) c x := fun c x hx => by
    unfold yb
    rw [zf (hx.ne h.1 hne)]
    exact hx
  exact Paired.setP (Paired.mapP h.2 far) (far _ _ hb)
theorem Rws.far {O : OM} {bs : List Addr} {p : Pic6} (h : Rws O bs p) {b : Addr} (hb : b ∉ bs) (o : OO) : Rws (updO O b o) bs p := by
  induction h with
  | nil => exact .nil
  | cons a c ih => exact .cons (by unfold yb; rw [zf (fun e => hb (by rw [e]; exact List.mem_cons_self))]; exact a) (ih fun m => hb (List.mem_cons_of_mem _ m))
theorem Rws.set {O : OM} {bs : List Addr} {p : Pic6} (h : Rws O bs p) (nd : bs.Nodup) {i : Nat} {b : Addr} (hb : bs[i]? = some b) (s : Rw6) : Rws (updO O b (.lst ((s.map zw).map .d))) bs (p.set i s) := by
  induction h generalizing i with
  | nil => cases hb
  | cons a c ih =>
    rename_i x y xs ys
    obtain ⟨n1, n2⟩ := List.nodup_cons.1 nd
    cases i with
    | zero =>
      cases hb
      exact .cons zc (Rws.far c n1 _)
    | succ i =>
      have hx : x ≠ b := fun z => n1 (by rw [z]; exact List.mem_of_getElem? (by simpa using hb))
      exact .cons (by unfold yb; rw [zf hx]; exact a) (ih n2 (i := i) (by simpa using hb))
theorem zn.setRow {O : OM} {q b : Addr} {bs : List Addr} {p : Pic6} (h : zn O q bs p) (nd : bs.Nodup) {i : Nat} (hb : bs[i]? = some b) (s : Rw6) : zn (updO O b (.lst ((s.map zw).map .d))) q bs (p.set i s) := by
  have hne : bs ≠ [] := fun e => by rw [e] at hb; cases hb
  obtain ⟨r, _, hr⟩ := Paired.getP h.2 hb
  exact ⟨by rw [zf (Ne.symm (hr.ne h.1 hne))]; exact h.1, Rws.set h.2 nd hb s⟩
noncomputable def wrS (r : Rw6) (c : Nat) (t : Str) (ink : Int) (i : Nat) : Rw6 := r.take c ++ ((t.cps.toList.take i).map fun k => ((⟨#[k]⟩ : Str), ink)) ++ r.drop (c + i)
theorem Ys (r : Rw6) (c : Nat) (t : Str) (ink : Int) : wrS r c t ink 0 = r := by simp [wrS]
theorem jy {r : Rw6} {c : Nat} {t : Str} {ink : Int} {i : Nat} (hc : c + t.length ≤ r.length) (hi : i ≤ t.length) : (wrS r c t ink i).length = r.length := by
  have tl : t.cps.toList.length = t.length := rfl
  unfold wrS
  simp only [List.length_append, List.length_take, List.length_map, List.length_drop]
  omega
theorem Yt {r : Rw6} {c : Nat} {t : Str} {ink : Int} {i k : Nat} (hc : c + t.length ≤ r.length) (hk : t.cps.toList[i]? = some k) : (wrS r c t ink i).set (c + i) (⟨#[k]⟩, ink) = wrS r c t ink (i + 1) := by
  have tl : t.cps.toList.length = t.length := rfl
  have hi : i < t.length := by have := (List.getElem?_eq_some_iff.1 hk).1; omega
  have la : (r.take c ++ ((t.cps.toList.take i).map fun k => ((⟨#[k]⟩ : Str), ink))).length = c + i := by
    simp only [List.length_append, List.length_take, List.length_map]
    omega
  unfold wrS
  rw [List.set_append_right _ _ (by omega), la, Nat.sub_self, List.drop_eq_getElem_cons (by omega : c + i < r.length), List.set_cons_zero, List.take_add_one, hk]
  simp [Nat.add_assoc]
theorem Yu {r : Rw6} {c : Nat} {t : Str} {ink : Int} (hc : c + t.length ≤ r.length) : wrS r c t ink t.length = wrR r c t ink := by
  have tl : t.cps.toList.length = t.length := rfl
  have := jy (ink := ink) hc (Nat.le_refl t.length)
  unfold wrR
  have e : wrS r c t ink t.length = r.take c ++ (t.cps.toList.map fun k => ((⟨#[k]⟩ : Str), ink)) ++ r.drop (c + t.length) := by
    unfold wrS
    rw [← tl, List.take_length]
  rw [← e, ← this, List.take_length]
end L2
namespace L2
open PySem PySem.Spec PyProof.Rows
noncomputable def uv : SpW := fun ws O R => ∃ ns : List Int, ∃ w h : Nat, ws = [.d (.list (ns.map .int)), .d (.int w), .d (.int h)] ∧ 1 ≤ w ∧ w ≤ 24 ∧ 1 ≤ h ∧ h ≤ 12 ∧ ∀ (ds : List Dd) (O' : OM), ds.length ≤ 100 → (∀ d ∈ ds, okDd w h d) → Old O O' → R (.d (.list (ds.map ddD))) O'
end L2
namespace L2
open PySem PySem.Spec PyProof.Rows
theorem kj {T1 T2 U : TSW} {D : EndsW} {ρ : WS} {O : OM} (J : WS → OM → Prop) (ht : ∀ R : WS → OM → Prop, (∀ ρ' O', J ρ' O' → R ρ' O') → yK T1 T2 { D with nx := R } ρ O) (hu : ∀ ρ' O', J ρ' O' → U D ρ' O') : yK T1 (yK T2 U) D ρ O := ht (U D) hu
end L2
namespace Att
open PySem PySem.W PySem.Calls PyProof.Rows
theorem Yv {i : Int} (x : (WData.int i).layable = true) : L2.Bt 1048576 i := by
  have h := (layableW_iff.mp x).2.2
  simp only [WData.weight] at h
  unfold L2.Bt
  by_cases hi : i = 0
  · subst hi
    exact Nat.two_pow_pos _
  · have hn : i.natAbs ≠ 0 := by omega
    simp only [beq_iff_eq, hi, if_false] at h
    exact (Nat.log2_lt hn).mp (by
      have e : (2 : Nat) ^ 20 = 1048576 := by decide
      omega)
theorem attB {l : OpenLaw} {n : Nat} {q : Program} {loose : List Str} {XP : (Str → Option Value) → Heap → Prop} {YP : World → Heap → Prop} {d : DefRec}
    (hn : l.most = some n) (hdf : d.params.defaults = [])
    (call : ∀ (w : World) (s₀ s₁ : Shared) (mg mb : Str → Option Value) (fa a : Addr) (vs : List Value) (ns : List Int), Ground q loose [] XP w s₀ mg mb s₁.heap → YP w s₁.heap → mg d.name = some (.ref fa) →
      s₁.heap.get? a = some { cls := .type "list", data := .seq vs.toArray } → IntsAre vs ns → ns.length ≤ n → (∀ i ∈ ns, L2.Bt 1048576 i) → s₁.gens = #[] →
      codeAny (model l.prog w) callerA (.call (.ref fa) ⟨[.ref a], []⟩) (fun r s' => r = .ok (.ret (.bool true)) ∧ OldK s₁.heap s'.heap ∧ s'.os = s₁.os ∧ AllBare s'.gens) s₁) :
    WalkO q loose XP YP l.row.toRowW d [] (fun f vs => PySem.call f vs) := by
  intro w s₀ s₁ mg mb G Y fa o pm cd doc dV kV ho hd hcd hD hm hg args vals as hp hy hr hw hl
  cases Dflts.none hD hdf
  cases Dflts.noKw hD
  obtain ⟨a, vs, ns, e1, e2, hb, hi, hk⟩ := kR hn hp hw
  subst e1
  subst e2
  have bits : ∀ i ∈ ns, L2.Bt 1048576 i := fun i h => Yv (layableW_item (layableW_arg hy _ List.mem_cons_self) _ (List.mem_map.2 ⟨i, h, rfl⟩))
  refine enter_call (codeAny_mono (call w s₀ s₁ mg mb fa a vs ns G Y hm hb hi hk bits hg) ?_)
  rintro r s' ⟨rfl, c2, c3, c4⟩
  refine ⟨.inl ⟨.bool true, .bool true, [], rfl, fun _ => rfl, .bool true, kS l _, fun _ => ⟨List.Pairwise.nil, fun _ z => ?_⟩⟩, c2, c3, c4⟩
  cases z
end Att
namespace L2
open PySem PySem.Spec PyProof.Rows
theorem walkW {l : PySem.W.OpenLaw} {n k : Nat} {q : Program} {loose : List Str} {XP : (Str → Option Value) → Heap → Prop} {YP : World → Heap → Prop} {d : DefRec} {K : Params → PySem.W.Frag} {x : Str} {s : SpW} (hn : l.most = some n) (hn2 : n ≤ 1000) (hdf : d.params.defaults = []) (hr : Room k callerA)
    (hY : ∀ (w : World) (h : Heap), YP w h → (K w.params).In h)
    (F : ∀ (w : World) (mg : Str → Option Value) (fa : Addr) (h : Heap), (K w.params).In h → h.Ns mainGlobals mg → mg d.name = some (.ref fa) →
      ∃ fd : FuncData, (∀ (s : Shared) (u : Value), BindsTo s fd ⟨[u], []⟩ [(x, u)]) ∧ ∀ base : Heap, (K w.params).In base → base.Ns mainGlobals mg → FnOk l.prog w (K w.params) mg base CX0 k fa fd [x] (zg (K w.params) s))
    (hs : ∀ (ns : List Int) (O : OM) (R : WK), ns.length ≤ n → (∀ i ∈ ns, Bt 1048576 i) → (∀ O', R (.d (.bool true)) O') → s [.d (.list (ns.map .int))] O R) :
    PySem.W.WalkO q loose XP YP l.row.toRowW d [] (fun f vs => PySem.call f vs) := by
  refine Att.attB hn hdf fun w s₀ s₁ mg mb fa a vs ns G Y hm hb hi hk bits hg => ?_
  obtain ⟨fd, e1, e2⟩ := F w mg fa _ (hY w _ Y) G.T.g hm
  refine ZH (hY w _ Y) G.T.g G.T.b G.T.builtins G.T.nolimit hg hb hi (Nat.le_trans hk (Nat.le_trans hn2 (by decide))) hr e2 e1 (fun H hO hS => ?_) fun _ _ _ z => z
  refine ⟨⟨H, fun _ => none, fun _ => none⟩, fun _ => none, [.d (.list (ns.map .int))], fun w _ => w = .d (.bool true), ?_, .cons ⟨a, _, rfl, hS, uH ns⟩ .nil, hs ns _ _ hk bits fun _ => rfl, ?_⟩
  · exact ⟨Same.refl _, fun _ _ e => (by cases e), fun _ _ e => (by cases e), fun _ _ e => (by cases e), fun _ _ e => (by cases e), fun _ _ e => (by cases e), fun _ _ e => (by cases e), fun _ _ _ _ _ _ _ e => (by cases e)⟩
  · rintro Γ' O' H' w v _ _ r rfl
    exact r
end L2
namespace K27
open PySem L2
local macro_rules | `(tactic| walk_at "ref") => `(tactic| repeat' (first
  | with_reducible exact Um
  | with_reducible exact XI
  | with_reducible exact XJ
  | with_reducible exact VW
  | with_reducible apply VX
  | with_reducible exact Qk
  | with_reducible exact Qq
  | with_reducible exact UG
  | with_reducible exact UK
  | with_reducible exact UL
  | with_reducible exact Uq
  | with_reducible exact Qc
  | with_reducible exact Qd
  | with_reducible exact Qi
  | with_reducible exact Uh
  | with_reducible exact UO
  | with_reducible exact UN
  | exact Qj (fun _ _ => rfl)
  | exact QI (fun _ _ => rfl)
  | with_reducible apply ZT
  | with_reducible apply jr
  | with_reducible apply Ql
  | with_reducible apply XL
  | with_reducible apply V0
  | with_reducible apply XM
  | with_reducible exact X3
  | with_reducible exact XN
  | with_reducible apply Vc
  | with_reducible apply ZV
  | with_reducible apply Yl
  | with_reducible apply Yo
  | with_reducible exact Zq
  | with_reducible apply Vf
  | with_reducible apply XO
  | with_reducible apply XQ
  | with_reducible apply Z7
  | with_reducible apply Zc
  | with_reducible apply Zd
  | with_reducible apply V4
  | with_reducible exact Vh
  | with_reducible exact Ul
  | with_reducible exact V5
  | with_reducible exact QH
  | with_reducible exact Qh
  | with_reducible apply Vb
  | with_reducible apply X0
  | with_reducible exact jZ
  | with_reducible apply Z9
  | with_reducible apply X8
  | with_reducible apply X9
  | with_reducible apply Ua
  | with_reducible apply X1
  | with_reducible apply Ym
  | with_reducible apply Uc
  | with_reducible apply XY
  | with_reducible exact Z6
  | with_reducible exact Uv
  | with_reducible exact XZ
  | with_reducible apply XT
  | with_reducible exact ZZ
  | with_reducible apply Z0
  | with_reducible apply XU
  | with_reducible apply XV
  | with_reducible apply XW
  | with_reducible exact Z2
  | with_reducible apply Z4
  | with_reducible exact Z3
  | with_reducible apply k6
  | with_reducible apply Z5
  | with_reducible apply XX
  | with_reducible apply k7
  | with_reducible apply Yc
  | with_reducible apply k8
  | with_reducible apply j9))
local macro_rules | `(tactic| walk_at "wd") => `(tactic| ((try dsimp only [j4, List.getElem?_cons_zero, List.getElem?_cons_succ, wC, wOp, vI0, vI, wUn, vU, vEq, vNe, Uo, Y3, uV, Ze, ZR, wOr, ZS, wIf, ZU, jT, wCs, v0, wCB, vI2, Ur, Y4, Zf, Zg, yK, jU, jV, ZX, Qf, ZY, Z1, vj, ofV, jY, List.set, List.map, yH, List.append, List.nil_append, List.cons_append]); try simp [UF, UT, Xa, Xi, Xl, Zp, UP, Zr, kd, Xj, kc, vm, UJ, Xg, QJ, Xc, Xd, isN, Zk, ju, Zl, jv, Zm, okN, Xe, UH, j4, wC, wOp, vI0, vI, vU, vEq, vNe, Uo, Y3, Yb, VY, VZ, Ug, Y1, Ze, YT, qB, Y5, Uw, uV, ZR, wOr, ZS, ZU, jT, V2, V3, YZ, v0, wCB, ZW, YU, qw, qy, vI2, Uf, jp, Y0, Ur, Zf, wBM, Ud, jo, k9, yK, jU, jV, ZX, ZY, Z1, vj, jX, jW, v1, V6, Y4, Zg, V9, YV, YW, Zi, wLc, Uk, v2, zz, yH, ofV, vOf, scD, u7, jS, QD, z0, jY, QF, V1, tyD, isI, zP, and_assoc, vk, X7, zc, kY]))
noncomputable def top (i : Nat) : Stmt := PySem.Challenge.pw_signscreen_k27_ways_done.main.body.getD i (.Pass ⟨0, 0, 0, 0⟩)
local macro_rules | `(tactic| walk_at "sc") => `(tactic| exact ⟨rfl, rfl, rfl, by decide +kernel, rfl, by decide +kernel, by decide +kernel⟩)
noncomputable abbrev yp : Stmt := top 1
theorem qH : FnScope ["wide", "ink"] ["wide", "ink"] (defScope yp) := by walk_at "sc"
noncomputable abbrev vP : Stmt := top 2
theorem Zv : FnScope ["picture"] ["picture"] (defScope vP) := by walk_at "sc"
noncomputable abbrev yX : Stmt := top 4
theorem uR : FnScope ["wide", "many"] ["wide", "many"] (defScope yX) := by walk_at "sc"
noncomputable abbrev xK : Stmt := top 5
theorem vy : FnScope ["rows", "row", "many", "left"] ["rows", "row", "many"] (defScope xK) := by walk_at "sc"
noncomputable abbrev xL : Stmt := top 6
theorem vz : FnScope ["rows", "row", "many", "blanks"] ["rows", "row", "many"] (defScope xL) := by walk_at "sc"
noncomputable abbrev yz : Stmt := top 7
theorem xf : FnScope ["cells", "column", "text", "ink", "written"] ["cells", "column", "text", "ink"] (defScope yz) := by walk_at "sc"
noncomputable abbrev xM : Stmt := top 8
theorem vA : FnScope ["picture", "way", "rows", "deed"] ["picture", "way"] (defScope xM) := by walk_at "sc"
noncomputable abbrev yA : Stmt := top 10
theorem ui : FnScope ["_law_script", "_law_k"] ["_law_script", "_law_k"] (defScope yA) := by walk_at "sc"
noncomputable abbrev yY : Stmt := top 11
theorem xS : FnScope ["_law_script", "_law_k", "_law_number"] ["_law_script", "_law_k"] (defScope yY) := by walk_at "sc"
noncomputable abbrev xN : Stmt := top 12
theorem qX : FnScope ["_law_number"] ["_law_number"] (defScope xN) := by walk_at "sc"
noncomputable abbrev xm : Stmt := top 13
theorem x6 : FnScope ["_law_number", "_law_some"] ["_law_number"] (defScope xm) := by walk_at "sc"
noncomputable abbrev xO : Stmt := top 14
theorem vB : FnScope ["_law_number", "_law_wide", "_law_row_here", "_law_ink_here", "_law_place"] ["_law_number", "_law_wide"] (defScope xO) := by walk_at "sc"
noncomputable abbrev yB : Stmt := top 15
theorem xg : FnScope ["_law_script", "_law_first", "_law_wide", "_law_high", "_law_rows", "_law_k", "_law_number", "_law_row_here"] ["_law_script", "_law_first", "_law_wide", "_law_high"] (defScope yB) := by walk_at "sc"
noncomputable abbrev yM : Stmt := top 17
theorem uw : FnScope ["_law_picture_here"] ["_law_picture_here"] (defScope yM) := by walk_at "sc"
noncomputable abbrev xP : Stmt := top 18
theorem vC : FnScope ["_law_picture_here", "_law_row_here", "_law_many", "_law_wide", "_law_rows"] ["_law_picture_here", "_law_row_here", "_law_many"] (defScope xP) := by walk_at "sc"
noncomputable abbrev xQ : Stmt := top 19
theorem vD : FnScope ["_law_picture_here", "_law_row_here", "_law_many", "_law_wide", "_law_fresh"] ["_law_picture_here", "_law_row_here", "_law_many"] (defScope xQ) := by walk_at "sc"
noncomputable abbrev xn : Stmt := top 20
theorem x8 : FnScope ["_law_picture_here", "_law_deed_here", "_law_rows", "_law_k", "_law_sign_here"] ["_law_picture_here", "_law_deed_here"] (defScope xn) := by walk_at "sc"
noncomputable abbrev yZ : Stmt := top 24
theorem xT : FnScope ["_law_script", "_law_wide", "_law_high", "_law_way", "_law_sort", "_law_row_here", "_law_k", "_law_number", "_law_met", "_law_place", "_law_size", "_law_cells", "_law_text"] ["_law_script", "_law_wide", "_law_high"] (defScope yZ) := by walk_at "sc"
noncomputable abbrev km : Stmt := top 25
theorem Zw : FnScope ["_law_script", "_law_wide", "_law_high", "_law_picture_here", "_law_way", "_law_due", "_law_deed_here", "_law_handed", "_law_turn", "_law_found", "_law_row_here"] ["_law_script"] (defScope km) := by walk_at "sc"
structure Txt (K : PySem.W.Frag) (mg : Str → Option Value) : Prop where
  n_len : mg "len" = none
  n_range : mg "range" = none
  n_dict : mg "dict" = none
  n_list : mg "list" = none
  n_isinstance : mg "isinstance" = none
  n_enumerate : mg "enumerate" = none
section
variable {P : Program} {w : World} {K : PySem.W.Frag} {mg : Str → Option Value} {base : Heap} {f : Addr} {fd : FuncData}
theorem ux (F : Fun K "_law_cell_at" "_law_cell_at" yA f fd) (T : Txt K mg) : FnOk P w K mg base CX0 1 f fd ["_law_script", "_law_k"] (zg K vk) := by
  apply F.okV ui (by rintro _ _ _ ⟨n, a, rfl, _⟩; rfl) (fun cdv A outer sh H E hr => (zd (yh (zJ YD (pv 1) (zF (yj (K := K) rfl) (by rfl) T.n_len (by rfl) (QA.pa (qc (pv 0) qn))) (zN _)) (zi (zt (zp (yt (K := K) rfl) (pv 0) (pv 1) (fun _ _ => rfl)))) zW)
      (zi (zt za))))
  · walk_at "ref"
  rintro _ O R ⟨ns, k, rfl, h⟩
  walk_at "wd"
  simp [lenW, z0, zj]
  split
  · rename_i hk
    refine ⟨_, xt (by rw [List.getElem?_map, List.getElem?_eq_getElem hk]; rfl), .inl ?_⟩
    rw [List.getD_eq_getElem?_getD, List.getElem?_eq_getElem hk] at h
    exact h
  · rename_i hk
    rw [List.getD_eq_getElem?_getD, List.getElem?_eq_none (by omega)] at h
    exact .inl h
theorem qI (F : Fun K "_law_mixed" "_law_mixed" yY f fd) (T : Txt K mg) (Q6 : Cal P w K mg base 1 "_law_cell_at" [] (zg K vk)) : FnOk P w K mg base CX0 2 f fd ["_law_script", "_law_k"] (zg K ua) := by
  have nd := xS.nd
  apply F.okV xS (by rintro _ _ _ ⟨n, a, rfl, _⟩; rfl) (fun cdv A outer sh H E hr => (zd (zk (i := 2) nd rfl (Or.inl rfl) (ze zq (ze zu (ze zu (ze yy (zo Q6 (hr.mono (by decide)) rfl (QA.pa (qc (pv 0) (qc (pv 1) qn)))) za) (ze yy za (pv 1))) za) za))
      (zi (zt (ze zq (ze yy (pv 2) (ze zu (pv 2) (ze yy za (pv 1)))) za)))))
  · walk_at "ref"
  rintro _ O R ⟨ns, k, rfl, hk, h⟩
  refine vN (fun ρ' O' => ∃ n : Int, 0 ≤ n ∧ n < 2147483647 ∧ ρ' = [some (.d (.list (ns.map .int))), some (.d (.int k)), some (.d (.int n))] ∧ O = O') (fun R1 hR1 => ?_) ?_
  · walk_at "wd"
    exact ⟨ns, rfl, k, rfl, mulR (by decide) (by decide), mulL (by decide) (by decide), hR1 _ _ ⟨_, Int.emod_nonneg _ (by decide), Int.emod_lt_of_pos _ (by decide), rfl, rfl⟩⟩
  rintro _ _ ⟨n, n0, n1, rfl, rfl⟩
  walk_at "wd"
  exact ⟨mulL (by decide) (by decide), mulL (by omega) (by omega), .inl (h _ (Int.emod_nonneg _ (by decide)) (Int.emod_lt_of_pos _ (by decide)))⟩
theorem kn (F : Fun K "_law_ink" "_law_ink" xN f fd) (T : Txt K mg) : FnOk P w K mg base CX0 1 f fd ["_law_number"] (zg K uW) := by
  apply F.okV qX (by rintro _ _ _ ⟨n, rfl, _⟩; rfl) (fun cdv A outer sh H E hr => (zd (yh (zJ yO (ze zq (pv 0) za) za (zN _)) (zi (zt (ze zq (ze zC (pv 0) za) za))) zW)
      (zi (zt (zp (yt (K := K) rfl) (yw (qc za (qc za (qc za (qc za (qc za (qc za qn))))))) (ze zq (ze zC (pv 0) za) za) (fun _ _ => rfl))))))
  · walk_at "ref"
  rintro _ O R ⟨n, rfl, n0, h⟩
  walk_at "wd"
  split
  · exact ⟨⟨by omega, by omega⟩, .inl (h _ (by omega) (by omega))⟩
  · refine ⟨⟨by omega, by omega⟩, _, rfl, ?_⟩
    have e : n / 5 % 6 = 0 ∨ n / 5 % 6 = 1 ∨ n / 5 % 6 = 2 ∨ n / 5 % 6 = 3 ∨ n / 5 % 6 = 4 ∨ n / 5 % 6 = 5 := by omega
    rcases e with e | e | e | e | e | e <;> rw [e] <;> exact ⟨_, rfl, .inl (h _ (by decide) (by decide))⟩
theorem qY (F : Fun K "_law_sign" "_law_sign" xm f fd) (T : Txt K mg) : FnOk P w K mg base CX0 1 f fd ["_law_number"] (zg K x4) := by
  have nd := x6.nd
  apply F.okV x6 (by rintro _ _ _ ⟨n, rfl, _⟩; rfl) (fun cdv A outer sh H E hr => (zd (zk (i := 1) nd rfl (Or.inl rfl) zM)
      (zd (zk (i := 1) nd rfl (Or.inl rfl) (ze jF (pv 1) zM))
      (zi (zt (zp (yt (K := K) rfl) (yw (qc zM (qc (zp kO zM (ze zq (ze zC (pv 0) za) za) (fun _ _ => rfl)) (qc (zp kO (pv 1) (ze zq (ze zC (pv 0) za) za) (fun _ _ => rfl)) (qc zM qn))))) (ze zq (pv 0) za) (fun _ _ => rfl)))))))
  · walk_at "ref"
  rintro _ O R ⟨n, rfl, n0, h⟩
  walk_at "wd"
  have e : n / 4 % 4 = 0 ∨ n / 4 % 4 = 1 ∨ n / 4 % 4 = 2 ∨ n / 4 % 4 = 3 := by omega
  obtain ⟨x, hx0, hx1, hx⟩ : ∃ x, 32 ≤ x ∧ x ≤ 126 ∧ atI (Str.ofString "ab~ ").cps.toList (n / 4 % 4) = some x := by
    rcases e with e | e | e | e <;> rw [e]
    · exact ⟨97, by decide, by decide, by decide +kernel⟩
    · exact ⟨98, by decide, by decide, by decide +kernel⟩
    · exact ⟨126, by decide, by decide, by decide +kernel⟩
    · exact ⟨32, by decide, by decide, by decide +kernel⟩
  obtain ⟨y, hy0, hy1, hy⟩ := UA ⟨(n / 4 % 94).toNat, by omega⟩
  rw [show (((⟨(n / 4 % 94).toNat, by omega⟩ : _root_.Fin 94).val : Nat) : Int) = n / 4 % 94 from Int.toNat_of_nonneg (by omega)] at hy
  have l1 : ∀ k, k ≤ 1000 → k ≤ sizeLine := fun k hk => by rw [sizeLine_eq]; omega
  refine ⟨l1 _ (by decide +kernel), ⟨by omega, by omega⟩, l1 _ (by decide +kernel), x, hx, ⟨by omega, by omega⟩, l1 _ (by decide +kernel), y, hy, _, rfl, ?_⟩
  have e : n % 4 = 0 ∨ n % 4 = 1 ∨ n % 4 = 2 ∨ n % 4 = 3 := by omega
  rcases e with e | e | e | e <;> rw [e]
  · exact ⟨_, rfl, .inl (h 32 (by decide) (by decide))⟩
  · exact ⟨_, rfl, .inl (h x hx0 hx1)⟩
  · exact ⟨_, rfl, .inl (h y hy0 hy1)⟩
  · exact ⟨_, rfl, .inl (h 97 (by decide) (by decide))⟩
theorem ko (F : Fun K "_law_row" "_law_row" xO f fd) (T : Txt K mg) (Jb : Cal P w K mg base 1 "_law_ink" [] (zg K uW)) (Jg : Cal P w K mg base 1 "_law_sign" [] (zg K x4)) : FnOk P w K mg base CX0 2 f fd ["_law_number", "_law_wide"] (zg K sRow7) := by
  have nd := vB.nd
  apply F.okV vB (by rintro _ _ _ ⟨n, m, rfl, _⟩; rfl) (fun cdv A outer sh H E hr => (zd (zk (i := 2) nd rfl (Or.inl rfl) (xw qn))
      (zd (zk (i := 3) nd rfl (Or.inl rfl) (zo Jb (hr.mono (by decide)) rfl (QA.pa (qc (pv 0) qn))))
      (zd (yo PassesOwn.never rfl (zI rfl T.n_range (QA.pa (qc (pv 1) qn))) (zr (i := 4) nd rfl (Or.inl rfl))
      (zd (zk (i := 0) nd rfl (Or.inl rfl) (ze zu (ze zq (ze yy (pv 0) za) za) (pv 4)))
      (zd (yh (zJ yO (ze zq (pv 0) za) za (zN _)) (zi (zk (i := 3) nd rfl (Or.inl rfl) (zo Jb (hr.mono (by decide)) rfl (QA.pa (qc (ze zC (pv 0) za) qn))))) zW)
      (zi (yv (xx (K := K) rfl PySem.F.plainAttrs_list PySem.F.slot_list_append PySem.F.type_list_append yF (pv 2) (QA.pa (qc (z9 (qc (zo Jg (hr.mono (by decide)) rfl (QA.pa (qc (ze zC (pv 0) za) qn))) (qc (pv 3) qn))) qn))))))))
      (zi (zt (pv 2)))))))
  · walk_at "ref"
  rintro _ O R ⟨n, m, rfl, n0, n1, m0, m1, h⟩
  walk_at "wd"
  intro p hp
  refine ⟨n, rfl, n0, fun i i0 i1 => ⟨by omega, by omega, ?_⟩⟩
  refine z7.rng (f := fun i => (i : Int)) (fun i ρ O' => Old O O' ∧ ∃ v4, ∃ n k : Int, ∃ r : Rw6, ρ = [some (.d (.int n)), some (.d (.int m)), some (.own p), some (.d (.int k)), v4] ∧ O' p = some (.lst ((r.map zw).map .d)) ∧ r.length = i ∧ okR r ∧ 0 ≤ n ∧ n < 1000000000000 ∧ 0 ≤ k ∧ k < 512) ⟨Old.refl.upd hp, _, _, _, [], rfl, zc, rfl, (show okR [] from fun z hz => by cases hz), n0, n1, i0, i1⟩ ?_ ?_
  · rintro i _ O2 hi ⟨ho2, v4, n, k, r, rfl, hb2, hl2, hr2, n0, n1, k0, k1⟩ R2 hR2
    have hi9 : i < 24 := by omega
    have e2 : ∀ w, xi O2 (.own p) w = some (updO O2 p (.lst ((r.map zw).map .d ++ [w]))) := fun w => by
      simp only [xi, hb2]
      rw [if_pos (by rw [List.length_map, List.length_map]; omega)]
    walk_at "wd"
    refine ⟨mulL (by omega) (by omega), ?_⟩
    have fin : ∀ (q : Nat) (k : Int), 32 ≤ q → q ≤ 126 → 0 ≤ k → k < 512 → R2 [some (.d (.int (n * 16807 % 998244353 + ↑i))), some (.d (.int m)), some (.own p), some (.d (.int k)), some (.d (.int i))] (updO O2 p (.lst ((r.map zw).map .d ++ [.d (.tuple [.str ⟨#[q]⟩, .int k])]))) := fun q k q0 q1 k0 k1 =>
      hR2 _ _ ⟨ho2.upd hp, _, _, _, r ++ [(⟨#[q]⟩, k)], rfl, by rw [zc, List.map_append, List.map_append]; rfl, by simp [hl2], fun x hx => by
          rcases List.mem_append.mp hx with hx | hx
          · exact hr2 x hx
          · cases List.mem_singleton.mp hx; exact ⟨q, q0, q1, rfl⟩, by omega, by omega, k0, k1⟩
    split
    · exact ⟨⟨by omega, by omega⟩, _, rfl, by omega, fun k k0 k1 => ⟨.inl ⟨rfl, by simp [zj, hb2]⟩, ⟨by omega, by omega⟩, _, rfl, by omega, fun q q0 q1 => ⟨_, rfl, by show 2 ≤ 1000; omega, _, e2 _, fin q k q0 q1 k0 k1⟩⟩⟩
    · exact ⟨.inl ⟨rfl, by simp [zj, hb2]⟩, ⟨by omega, by omega⟩, _, rfl, by omega, fun q q0 q1 => ⟨_, rfl, by show 2 ≤ 1000; omega, _, e2 _, fin q k q0 q1 k0 k1⟩⟩
  · rintro _ O2 ⟨ho2, v4, n, k, r, rfl, hb2, hl2, hr2, n0, n1, k0, k1⟩
    walk_at "wd"
    exact .inr ⟨_, _, rfl, hb2, h r _ hl2 hr2 (ho2.del hp)⟩
end
section
variable {P : Program} {w : World} {K : PySem.W.Frag} {mg : Str → Option Value} {base : Heap} {f : Addr} {fd : FuncData}
theorem uy (F : Fun K "_law_picture" "_law_picture" yB f fd) (T : Txt K mg) (Jc : Cal P w K mg base 2 "_law_mixed" [] (zg K ua)) (Jf : Cal P w K mg base 2 "_law_row" [] (zg K sRow7)) : FnOk P w K mg base CX0 3 f fd ["_law_script", "_law_first", "_law_wide", "_law_high"] (zg K sPic7) := by
  have nd := xg.nd
  apply F.okV xg (by rintro _ _ _ ⟨a, b, c, d, rfl, _⟩; rfl) (fun cdv A outer sh H E hr => (zd (zk (i := 4) nd rfl (Or.inl rfl) (xw qn))
      (zd (yo PassesOwn.never rfl (zI rfl T.n_range (QA.pa (qc (pv 3) qn))) (zr (i := 5) nd rfl (Or.inl rfl))
      (zd (zk (i := 6) nd rfl (Or.inl rfl) (zo Jc (hr.mono (by decide)) rfl (QA.pa (qc (pv 0) (qc (ze zu (pv 1) (ze zq (pv 5) za)) qn)))))
      (zd (zk (i := 6) nd rfl (Or.inl rfl) (ze zu (ze zC (pv 6) (ze zu za (ze zC (pv 5) za))) (ze yy za (pv 5))))
      (zd (zk (i := 7) nd rfl (Or.inl rfl) (zo Jf (hr.mono (by decide)) rfl (QA.pa (qc (ze zC (pv 6) za) (qc (pv 2) qn)))))
      (zd (yh (zJ yO (ze zq (pv 6) za) za (zN _)) (zi (zk (i := 7) nd rfl (Or.inl rfl) (ze (Ve (K := K) rfl) (yw (qc (z9 (qc zM (qc za qn))) qn)) (pv 2)))) zW)
      (zd (yh (PW.pt (Vs (zJ yO (ze zq (pv 6) za) za (zN _)) (Xp (zJ (qA (K := K) rfl hr.units) (pv 4) (yw qn) (zN _))))) (zi (zk (i := 7) nd rfl (Or.inl rfl) (yE (jN (K := K) rfl) (by rfl) T.n_list rfl (QA.pa (qc (zp (yt (K := K) rfl) (pv 4) (ze zq (ze zC (pv 6) za) (zF (yj (K := K) rfl) (by rfl) T.n_len (by rfl) (QA.pa (qc (pv 4) qn)))) (fun _ _ => rfl)) qn))))) zW)
      (zi (yv (xx (K := K) rfl PySem.F.plainAttrs_list PySem.F.slot_list_append PySem.F.type_list_append yF (pv 4) (QA.pa (qc (pv 7) qn)))))))))))
      (zi (zt (pv 4))))))
  · walk_at "ref"
  rintro _ O R ⟨ns, first, wd, hg, rfl, hf, w0, w1, h0, h1, h⟩
  walk_at "wd"
  intro p hp
  refine ⟨by omega, ?_⟩
  refine z7.rng (f := fun i => (i : Int)) (fun i ρ O' => Old O O' ∧ ∃ v5 v6 v7, ∃ pc : Pic6, ρ = [some (.d (.list (ns.map .int))), some (.d (.int first)), some (.d (.int wd)), some (.d (.int hg)), some (.own p), v5, v6, v7] ∧ O' p = some (.lst ((pc.map rowC).map .d)) ∧ pc.length = i ∧ ∀ r ∈ pc, r.length = wd ∧ okR r) ⟨Old.refl.upd hp, _, _, _, [], rfl, zc, rfl, fun r hr => (nomatch hr)⟩ ?_ ?_
  · rintro i _ O2 hi ⟨ho2, v5, v6, v7, pc, rfl, hb2, hl2, hr2⟩ R2 hR2
    have e2 : ∀ O3 w, O3 p = O2 p → xi O3 (.own p) w = some (updO O3 p (.lst ((pc.map rowC).map .d ++ [w]))) := fun O3 w e => by
      simp only [xi, e, hb2]
      rw [if_pos (by rw [List.length_map, List.length_map]; omega)]
    refine uX (fun ρ' O' => ∃ n : Int, ∃ r : Rw6, 0 ≤ n ∧ n < 3000000000 ∧ ρ' = [some (.d (.list (ns.map .int))), some (.d (.int first)), some (.d (.int wd)), some (.d (.int hg)), some (.own p), some (.d (.int i)), some (.d (.int n)), some (.d (rowC r))] ∧ r.length = wd ∧ okR r ∧ Old O2 O') (fun R1 hR1 => ?_) ?_
    · walk_at "wd"
      have i6 : (0 : Int) ≤ (i : Int) / 6 ∧ (i : Int) / 6 ≤ 1 := by omega
      refine ⟨ns, first + i % 6, rfl, by omega, fun n n0 n1 => ⟨⟨by omega, by omega⟩, ⟨by omega, by omega⟩, mulL (by decide) (by decide), ⟨by omega, by omega⟩, ?_⟩⟩
      have q0 : 0 ≤ n / (1 + (i : Int) / 6) := Int.ediv_nonneg n0 (by omega)
      have q1 : n / (1 + (i : Int) / 6) ≤ n := Int.ediv_le_self _ n0
      generalize n / (1 + (i : Int) / 6) = m at *
      exact ⟨_, _, rfl, by omega, by omega, by omega, by omega, fun r O' hl hk ho => hR1 _ _ ⟨_, r, by omega, by omega, rfl, by omega, hk, ho⟩⟩
    rintro _ O3 ⟨n, r, n0, n1, rfl, rl, rk, ho3⟩
    have hb3 : O3 p = O2 p := ho3 p (by rw [hb2]; simp)
    walk_at "wd"
    have fin : ∀ s : Rw6, s.length = wd → okR s → ∃ x, xi O3 (.own p) (.d (rowC s)) = some x ∧ R2 [some (.d (.list (ns.map .int))), some (.d (.int first)), some (.d (.int wd)), some (.d (.int hg)), some (.own p), some (.d (.int i)), some (.d (.int n)), some (.d (rowC s))] x := fun s sl sk =>
      ⟨_, e2 O3 _ hb3, hR2 _ _ ⟨(ho2.trans ho3).upd hp, _, _, _, pc ++ [s], rfl, by rw [zc, List.map_append, List.map_append]; rfl, by simp [hl2], fun x hx => by
        rcases List.mem_append.mp hx with hx | hx
        · exact hr2 x hx
        · cases List.mem_singleton.mp hx; exact ⟨sl, sk⟩⟩⟩
    have ty : tyW "list" O3 (.own p) := .inl ⟨rfl, by simp [zj, hb3, hb2]⟩
    have dp : yD O3 (.own p) = some (rowsC pc) := by simp only [yD, hb3, hb2, ud, Option.map_some]; rfl
    have sp : SeqAt.shaped (rowsC pc) = true := uY fun r hr => (hr2 r hr).2
    split
    · refine ⟨_, rfl, by omega, by simp; omega, ?_⟩
      rw [if_neg (by omega), kh]
      exact ⟨ty, fin _ (by simp [zG]) (uL _)⟩
    · split
      · refine ⟨_, dp, _, rfl, sp, by rfl, ?_⟩
        rw [Yq]
        split
        · exact ⟨ty, fin _ rl rk⟩
        · rename_i hne
          have hne : pc ≠ [] := fun e => hne (by rw [e]; rfl)
          have hpos : 0 < pc.length := List.length_pos_iff.2 hne
          obtain ⟨s, hs, e⟩ := UV (pc := pc) (k := n / 8 % (pc.length : Int)) (Int.emod_nonneg _ (by omega)) (Int.emod_lt_of_pos _ (by omega))
          refine ⟨⟨by omega, by omega⟩, pc.length, by simp [lenW, z0, zj, hb3, hb2], by omega, _, by simp only [zj, hb3, hb2], _, e, s.map zw, by simp only [seqD, z0, zj, rowC, Option.bind_some, zQ], ty, fin s (hr2 s hs).1 (hr2 s hs).2⟩
      · exact ⟨ty, fin _ rl rk⟩
  · rintro _ O2 ⟨ho2, v5, v6, v7, pc, rfl, hb2, hl2, hr2⟩
    walk_at "wd"
    exact .inr ⟨_, _, rfl, hb2, h pc _ ⟨hl2, hr2⟩ (ho2.del hp)⟩
end
section
variable {P : Program} {w : World} {K : PySem.W.Frag} {mg : Str → Option Value} {base : Heap} {f : Addr} {fd : FuncData}
theorem x9 {d : Value} (F : FunD K "blank_row" "blank_row" yp [d] f fd) (T : Txt K mg) : FnOk P w K mg base CX0 1 f fd ["wide", "ink"] (zg K vn) := by
  apply F.okV qH (by rintro _ _ _ ⟨a, rfl, _⟩; rfl) (fun cdv A outer sh H E hr => (zi (zt (Uj (yT (N := ["column", "ink"]) (n := 1) (js := [1])) rfl (zI rfl T.n_range (QA.pa (qc (pv 0) qn))) (fun _ _ _ _ => (zr (i := 0) (show List.Nodup (["column", "ink"] : List Str) by decide +kernel) rfl (Or.inl rfl))) (fun _ _ _ _ => yd) (fun _ _ _ _ => (z9 (qc zM (qc (pv 1) qn))))))))
  · walk_at "ref"
  rintro _ O R ⟨a, rfl, ha, h⟩
  walk_at "wd"
  refine ⟨by omega, by omega, fun _ => some (zw ue), ?_, fun p hp => .inl ?_⟩
  · intro k hk us hus
    match us, hus with
    | [u], _ => simp [zP, zw, ue]; rfl
  · have := h p hp
    have e : (zG a).map zw = (List.range a).map fun _ => zw ue := by
      unfold zG
      rw [List.map_replicate, List.map_const']
      simp
    rw [e] at this
    simpa [List.filterMap_map, Function.comp_def] using this
theorem uS (F : Fun K "blank_rows" "blank_rows" yX f fd) (T : Txt K mg) (Ji : Cal P w K mg base 1 "blank_row" [.int 0] (zg K vn)) : FnOk P w K mg base CX0 2 f fd ["wide", "many"] (zg K xI) := by
  apply F.okV uR (by rintro _ _ _ ⟨a, b, rfl, _⟩; rfl) (fun cdv A outer sh H E hr => (zi (zt (xy (yT (N := ["row", "wide"]) (n := 1) (js := [0])) rfl (zI rfl T.n_range (QA.pa (qc (pv 1) qn))) (fun _ _ _ _ => (zr (i := 0) (show List.Nodup (["row", "wide"] : List Str) by decide +kernel) rfl (Or.inl rfl))) (fun _ _ _ _ => yd) (fun _ _ _ _ => (zo Ji (hr.mono (by decide)) rfl (QA.pa (qc (pv 1) qn))))))))
  · walk_at "ref"
  rintro _ O R ⟨wd, m, rfl, hw, hm, h⟩
  walk_at "wd"
  refine ⟨by omega, by omega, fun i vs O' => ∃ bs, vs = bs.map W.own ∧ Rws O' bs (List.replicate i (zG wd)) ∧ Old O O' ∧ ∀ b ∈ bs, O b = none, ⟨[], rfl, .nil, Old.refl, fun b hb => (nomatch hb)⟩, ?_, ?_⟩
  · rintro i _ _ O' n hn rfl ⟨bs, rfl, hb, ho, hf⟩ us hu
    obtain ⟨u, rfl⟩ := List.length_eq_one_iff.1 hu
    refine ⟨rfl, rfl, wd, rfl, hw, fun q hq => ⟨bs ++ [q], by simp, ?_, ho.upd (ho.nn hq), qF hf (ho.nn hq)⟩⟩
    rw [List.replicate_succ']
    exact Paired.appP (Rws.old hb (Old.refl.upd hq)) (.cons zc .nil)
  · rintro _ O' ⟨bs, rfl, hb, ho, hf⟩ p hp
    exact .inl (h p bs _ (zn.new hb hp) (ho.upd (ho.nn hp)) hf)
theorem Zx (F : Fun K "copied" "copied" vP f fd) (T : Txt K mg) : FnOk P w K mg base CX0 1 f fd ["picture"] (zg K xJ) := by
  apply F.okV Zv (by rintro _ _ _ ⟨a, b, rfl, _⟩; rfl) (fun cdv A outer sh H E hr => (zi (zt (xy (yT (N := ["row"]) (n := 1) (js := [])) rfl (yq (K := K) rfl (pv 0)) (fun _ _ _ _ => (zr (i := 0) (show List.Nodup (["row"] : List Str) by decide +kernel) rfl (Or.inl rfl))) (fun _ _ _ _ => yd) (fun _ _ _ _ => (yE (Za (K := K) rfl) (by rfl) T.n_list rfl (QA.pa (qc (pv 0) qn))))))))
  · walk_at "ref"
  rintro _ O R ⟨x, p, rfl, hp, l1, l2, h⟩
  obtain ⟨ws, hl, hs, hi⟩ := hp.seq
  walk_at "wd"
  refine ⟨ws, hs O Old.refl, by omega, fun i vs O' => ∃ bs, vs = bs.map W.own ∧ Rws O' bs (p.take i) ∧ Old O O' ∧ bs.Nodup ∧ ∀ b ∈ bs, O b = none, ⟨[], rfl, .nil, Old.refl, List.nodup_nil, fun b hb => (nomatch hb)⟩, fun i vs O' ⟨_, _, _, ho, _⟩ => hs O' ho, ?_, ?_⟩
  · rintro i w _ O' hw ⟨bs, rfl, hb, ho, nd, hf⟩ us hu
    obtain ⟨u, rfl⟩ := List.length_eq_one_iff.1 hu
    obtain ⟨r, hr, hd⟩ := hi i w hw
    refine ⟨rfl, rfl, _, hd O' ho, fun q hq => ⟨bs ++ [q], by simp, ?_, ho.upd (ho.nn hq), ?_, ?_⟩⟩
    · rw [List.take_add_one, hr]
      exact Paired.appP (Rws.old hb (Old.refl.upd hq)) (.cons zc .nil)
    · rw [List.nodup_append]
      refine ⟨nd, by simp, fun a ha b hb' => ?_⟩
      cases List.mem_singleton.1 hb'
      rintro rfl
      obtain ⟨r', _, hr'⟩ := Paired.getP hb (List.getElem?_eq_getElem (List.idxOf_lt_length_of_mem ha))
      rw [List.getElem_idxOf] at hr'
      rw [show O' _ = _ from hr'] at hq
      cases hq
    · intro b hb'
      rcases List.mem_append.1 hb' with hb' | hb'
      · exact hf b hb'
      · cases List.mem_singleton.1 hb'
        exact ho.nn hq
  · rintro _ O' ⟨bs, rfl, hb, ho, nd, hf⟩ q hq
    rw [hl, List.take_length] at hb
    refine .inl (h q bs _ (zn.new hb hq) (ho.upd (ho.nn hq)) nd (fun m => ?_) (ho.nn hq) hf)
    obtain ⟨r', _, hr'⟩ := Paired.getP hb (List.getElem?_eq_getElem (List.idxOf_lt_length_of_mem m))
    rw [List.getElem_idxOf] at hr'
    rw [show O' _ = _ from hr'] at hq
    cases hq
theorem qZ (F : Fun K "with_cut" "with_cut" xK f fd) (T : Txt K mg) (Jj : Cal P w K mg base 2 "blank_rows" [] (zg K xI)) : FnOk P w K mg base CX0 3 f fd ["rows", "row", "many"] (zg K vp) := by
  have nd := vy.nd
  apply F.okV vy (by rintro _ _ _ ⟨a, b, c, d, e, g, i, rfl, _⟩; rfl) (fun cdv A outer sh H E hr => (zd (zk (i := 3) nd rfl (Or.inl rfl) (ze (yr (K := K) rfl) (zK (yk (K := K) rfl) (pv 0) zT (zU (pv 1))) (zK (yk (K := K) rfl) (pv 0) (zU (ze zu (pv 1) (pv 2))) zT)))
      (zi (zt (ze (yr (K := K) rfl) (pv 3) (zo Jj (hr.mono (by decide)) rfl (QA.pa (qc (zF (yj (K := K) rfl) (by rfl) T.n_len (by rfl) (QA.pa (qc (zp (yt (K := K) rfl) (pv 0) za (fun _ _ => rfl)) qn))) (qc (ze u6 (zF (yj (K := K) rfl) (by rfl) T.n_len (by rfl) (QA.pa (qc (pv 0) qn))) (zF (yj (K := K) rfl) (by rfl) T.n_len (by rfl) (QA.pa (qc (pv 3) qn)))) qn)))))))))
  · walk_at "ref"
  rintro _ O R ⟨a, bs, p, wd, hg, r, m, rfl, hp, ok, w1, h1, m0, hrm, h⟩
  walk_at "wd"
  have hbl := hp.len
  have hpl := ok.len
  refine ⟨_, hp.seq, fun p1 hp1 => ?_⟩
  rw [yf]
  have o1 := Old.refl.upd (o := .lst ((bs.map W.own).take r)) hp1
  refine ⟨_, (hp.old o1).seq, fun p2 hp2 => ?_⟩
  have erm : ((r : Int) + (m : Int)) = ((r + m : Nat) : Int) := by omega
  rw [erm, yQ]
  have n12 : p1 ≠ p2 := neO zc hp2
  have o2 := o1.upd (o := .lst ((bs.map W.own).drop (r + m))) (o1.nn hp2)
  refine ⟨(bs.map W.own).take r, by simp only [zj, zf n12, zc], (bs.map W.own).drop (r + m), by simp only [zj, zc], by simp; omega, fun p3 hp3 => ?_⟩
  have o3 := o2.upd (o := .lst ((bs.map W.own).take r ++ (bs.map W.own).drop (r + m))) (o2.nn hp3)
  have hp' := hp.old o3
  obtain ⟨b0, _, ha0, hr0⟩ := hp'.at (i := 0) (by omega)
  have hw0 := (ok.row (p[0]'(by omega)) (List.getElem_mem _)).1
  refine ⟨_, hp'.seq, _, ha0, _, hr0.lenW, _, hp'.lenW, r + (hg - (r + m)), by simp only [lenW, z0, zj, zc]; simp; omega, wd, m, by rw [hw0, hpl, show ((hg : Int) - ((r + (hg - (r + m)) : Nat) : Int)) = (m : Int) by omega], w1, by omega, fun q cs O4 hq ho hf => ?_⟩
  have h3 : O4 p3 = some (.lst ((bs.map W.own).take r ++ (bs.map W.own).drop (r + m))) := by rw [ho p3 (by rw [zc]; simp), zc]
  have hcl := hq.len
  rw [List.length_replicate] at hcl
  refine ⟨(bs.map W.own).take r ++ (bs.map W.own).drop (r + m), by simp only [zj, h3], _, hq.seq, by simp; omega, fun q2 hq2 => .inl ?_⟩
  have e : (bs.map W.own).take r ++ (bs.map W.own).drop (r + m) ++ cs.map W.own = (bs.take r ++ bs.drop (r + m) ++ cs).map W.own := by simp [List.map_take, List.map_drop]
  rw [e]
  have hb4 := Rws.old hp'.2 ho
  exact h q2 _ _ (zn.new (Paired.appP (Paired.appP (Paired.takeP hb4 _) (Paired.dropP hb4 _)) hq.2) hq2) ((o3.trans ho).upd ((o3.trans ho).nn hq2)) ((o3.trans ho).nn hq2) (Zt fun c hc => o3.nn (hf c hc))
theorem uj (F : Fun K "with_writing" "with_writing" yz f fd) (T : Txt K mg) : FnOk P w K mg base CX0 1 f fd ["cells", "column", "text", "ink"] (zg K Yr) := by
  have nd := xf.nd
  apply F.okV xf (by rintro _ _ _ ⟨a, b, c, d, e, rfl, _⟩; rfl) (fun cdv A outer sh H E hr => (zd (qk (i := 4) nd rfl rfl (yT (N := ["sign", "ink"]) (n := 1) (js := [3])) rfl (Ut (pv 2)) (fun _ _ _ _ => (zr (i := 0) (show List.Nodup (["sign", "ink"] : List Str) by decide +kernel) rfl (Or.inl rfl))) (fun _ _ _ _ => yd) (fun _ _ _ _ => (z9 (qc (pv 0) (qc (pv 1) qn)))))
      (zi (zt (zK (yk (K := K) rfl) (ze (qm (K := K) rfl) (ze (qm (K := K) rfl) (zK (ql (K := K) rfl) (pv 0) zT (zU (pv 1))) (pv 4)) (zK (ql (K := K) rfl) (pv 0) (zU (ze zu (pv 1) (zF qg (by rfl) T.n_len (by rfl) (QA.pa (qc (pv 2) qn))))) zT)) zT (zU (zF (yj (K := K) rfl) (by rfl) T.n_len (by rfl) (QA.pa (qc (pv 0) qn)))))))))
  · walk_at "ref"
  rintro _ O R ⟨b, r, c, t, ink, rfl, hb, hr, ht, hc, h⟩
  walk_at "wd"
  have hsw : ∀ w ∈ y9 t, ∃ k, w = .d (.str ⟨#[k]⟩) := fun w hw => by
    obtain ⟨k, _, rfl⟩ := List.mem_map.1 hw
    exact ⟨k, rfl⟩
  have e1 : (y9 t).length = t.length := by unfold y9; rw [List.length_map]; rfl
  have hO : O b = some (.lst ((r.map zw).map .d)) := hb
  have sl : zj O (.own b) = some ((r.map zw).map .d) := by simp only [zj, hO]
  have ec : ((c : Int) + (t.length : Int)) = ((c + t.length : Nat) : Int) := by omega
  have hfm : (y9 t).filterMap (fun w => match w with | .d x => some (PyData.tuple [x, .int ink]) | _ => none) = (t.cps.toList.map fun k => ((⟨#[k]⟩ : Str), ink)).map zw := by
    unfold y9
    rw [List.filterMap_map, List.map_map, ← List.filterMap_eq_map]
    rfl
  refine ⟨fun i hi => by have := ht t.cps[i] (by simp); omega, by omega, fun w => match w with | .d x => some (PyData.tuple [x, .int ink]) | _ => none, fun w hw us hu => ?_, ?_⟩
  · obtain ⟨u, rfl⟩ := List.length_eq_one_iff.1 hu
    obtain ⟨k, rfl⟩ := hsw w hw
    exact ⟨rfl, rfl, _, rfl, by show 2 ≤ 1000; omega, rfl⟩
  rw [hfm]
  have tl : t.cps.toList.length = t.length := rfl
  refine ⟨_, sl, _, zQ _, _, rfl, _, rfl, _, zQ _, _, zQ _, ?_, by rw [sizeLine_eq]; omega, _, sl, _, zQ _, _, rfl, _, rfl, _, zQ _, _, zQ _, ?_, r.length, hb.lenW, _, rfl, fun p hp => .inl ?_⟩
  · rw [yf]
    simp only [List.length_take, List.length_map]
    omega
  · rw [yf, ec, yQ]
    simp only [List.length_take, List.length_map, List.length_append, List.length_drop]
    omega
  · rw [yf, ec, yQ, yf]
    refine h p _ hp ?_ (Old.refl.upd hp)
    show updO _ _ _ _ = _
    rw [zc]
    unfold wrR
    simp [List.map_take, List.map_drop]
theorem ja (F : Fun K "with_put" "with_put" xL f fd) (T : Txt K mg) (Jj : Cal P w K mg base 2 "blank_rows" [] (zg K xI)) : FnOk P w K mg base CX0 3 f fd ["rows", "row", "many"] (zg K vq) := by
  have nd := vz.nd
  apply F.okV vz (by rintro _ _ _ ⟨a, b, c, d, e, g, i, rfl, _⟩; rfl) (fun cdv A outer sh H E hr => (zd (zk (i := 3) nd rfl (Or.inl rfl) (zo Jj (hr.mono (by decide)) rfl (QA.pa (qc (zF (yj (K := K) rfl) (by rfl) T.n_len (by rfl) (QA.pa (qc (zp (yt (K := K) rfl) (pv 0) za (fun _ _ => rfl)) qn))) (qc (pv 2) qn)))))
      (zi (zt (zK (yk (K := K) rfl) (ze (yr (K := K) rfl) (ze (yr (K := K) rfl) (zK (yk (K := K) rfl) (pv 0) zT (zU (pv 1))) (pv 3)) (zK (yk (K := K) rfl) (pv 0) (zU (pv 1)) zT)) zT (zU (zF (yj (K := K) rfl) (by rfl) T.n_len (by rfl) (QA.pa (qc (pv 0) qn)))))))))
  · walk_at "ref"
  rintro _ O R ⟨a, bs, p, wd, hg, r, m, rfl, hp, ok, w1, h1, m0, hrm, h⟩
  walk_at "wd"
  have hbl := hp.len
  have hpl := ok.len
  obtain ⟨b0, _, ha0, hr0⟩ := hp.at (i := 0) (by omega)
  have hw0 := (ok.row (p[0]'(by omega)) (List.getElem_mem _)).1
  refine ⟨_, hp.seq, _, ha0, _, hr0.lenW, wd, m, by rw [hw0], w1, by omega, fun q cs O1 hq ho hf => ?_⟩
  have hcl := hq.len
  rw [List.length_replicate] at hcl
  have hpO := hp.old ho
  refine ⟨_, hpO.seq, fun p1 hp1 => ?_⟩
  rw [yf]
  have i1 : Old O1 (updO O1 p1 (.lst ((bs.map W.own).take r))) := Old.refl.upd hp1
  refine ⟨(bs.map W.own).take r, by simp only [zj, zc], _, (hq.old i1).seq, by simp; omega, fun p2 hp2 => ?_⟩
  have i2 := i1.upd (o := .lst ((bs.map W.own).take r ++ cs.map W.own)) (i1.nn hp2)
  refine ⟨_, (hpO.old i2).seq, fun p3 hp3 => ?_⟩
  rw [yQ]
  have i3 := i2.upd (o := .lst ((bs.map W.own).drop r)) (i2.nn hp3)
  have n23 : p2 ≠ p3 := neO zc hp3
  refine ⟨(bs.map W.own).take r ++ cs.map W.own, by simp only [zj, zf n23, zc], (bs.map W.own).drop r, by simp only [zj, zc], by simp; omega, fun p4 hp4 => ?_⟩
  have i4 := i3.upd (o := .lst ((bs.map W.own).take r ++ cs.map W.own ++ (bs.map W.own).drop r)) (i3.nn hp4)
  refine ⟨_, (hpO.old i4).lenW, (bs.map W.own).take r ++ cs.map W.own ++ (bs.map W.own).drop r, by simp only [zj, zc], fun p5 hp5 => .inl ?_⟩
  rw [yf]
  have e : ((bs.map W.own).take r ++ cs.map W.own ++ (bs.map W.own).drop r).take p.length = ((bs.take r ++ cs ++ bs.drop r).take p.length).map W.own := by simp [List.map_take, List.map_drop]
  rw [e]
  have hb4 := Rws.old hpO.2 i4
  have hc4 := Rws.old hq.2 i4
  exact h p5 _ _ (zn.new (Paired.takeP (Paired.appP (Paired.appP (Paired.takeP hb4 _) hc4) (Paired.dropP hb4 _)) _) hp5) ((ho.trans i4).upd ((ho.trans i4).nn hp5)) ((ho.trans i4).nn hp5) (Zu hf)
theorem kq (F : Fun K "_law_cut" "_law_cut" xP f fd) (T : Txt K mg) : FnOk P w K mg base CX0 1 f fd ["_law_picture_here", "_law_row_here", "_law_many"] (zg K vp) := by
  have nd := vC.nd
  apply F.okV vC (by rintro _ _ _ ⟨a, b, c, d, e, g, i, rfl, _⟩; rfl) (fun cdv A outer sh H E hr => (zd (zk (i := 3) nd rfl (Or.inr rfl) (zF (yj (K := K) rfl) (by rfl) T.n_len (by rfl) (QA.pa (qc (zp (yt (K := K) rfl) (pv 0) za (fun _ _ => rfl)) qn))))
      (zd (zk (i := 4) nd rfl (Or.inl rfl) (ze (yr (K := K) rfl) (zK (yk (K := K) rfl) (pv 0) zT (zU (pv 1))) (zK (yk (K := K) rfl) (pv 0) (zU (ze zu (pv 1) (pv 2))) zT)))
      (zi (zt (ze (yr (K := K) rfl) (pv 4) (xy (yT (N := ["_law_turn", "_law_wide"]) (n := 1) (js := [3])) rfl (zI rfl T.n_range (QA.pa (qc (pv 2) qn))) (fun _ _ _ _ => (zr (i := 0) (show List.Nodup (["_law_turn", "_law_wide"] : List Str) by decide +kernel) rfl (Or.inl rfl))) (fun _ _ _ _ => yd) (fun _ _ _ _ => (ze jw (xw (qc (z9 (qc zM (qc za qn))) qn)) (pv 1))))))))))
  · walk_at "ref"
  rintro _ O R ⟨a, bs, p, wd, hg, r, m, rfl, hp, ok, w1, h1, m0, hrm, h⟩
  walk_at "wd"
  have hbl := hp.len
  have hpl := ok.len
  obtain ⟨b0, _, ha0, hr0⟩ := hp.at (i := 0) (by omega)
  have hw0 := (ok.row (p[0]'(by omega)) (List.getElem_mem _)).1
  refine ⟨_, hp.seq, _, ha0, _, hr0.lenW, _, hp.seq, fun p1 hp1 => ?_⟩
  rw [hw0, yf]
  have o1 := Old.refl.upd (o := .lst ((bs.map W.own).take r)) hp1
  refine ⟨_, (hp.old o1).seq, fun p2 hp2 => ?_⟩
  have erm : ((r : Int) + (m : Int)) = ((r + m : Nat) : Int) := by omega
  rw [erm, yQ]
  have n12 : p1 ≠ p2 := neO zc hp2
  have o2 := o1.upd (o := .lst ((bs.map W.own).drop (r + m))) (o1.nn hp2)
  refine ⟨(bs.map W.own).take r, by simp only [zj, zf n12, zc], (bs.map W.own).drop (r + m), by simp only [zj, zc], by simp; omega, fun p3 hp3 => ?_⟩
  have o3 := o2.upd (o := .lst ((bs.map W.own).take r ++ (bs.map W.own).drop (r + m))) (o2.nn hp3)
  have hp' := hp.old o3
  generalize hO3 : updO (updO (updO O p1 (.lst ((bs.map W.own).take r))) p2 (.lst ((bs.map W.own).drop (r + m)))) p3 (.lst ((bs.map W.own).take r ++ (bs.map W.own).drop (r + m))) = O3 at *
  have h33 : O3 p3 = some (.lst ((bs.map W.own).take r ++ (bs.map W.own).drop (r + m))) := by rw [← hO3, zc]
  refine ⟨by omega, by omega, fun i vs O' => ∃ cs, vs = cs.map W.own ∧ Rws O' cs (List.replicate i (zG wd)) ∧ Old O3 O' ∧ ∀ b ∈ cs, O3 b = none, ⟨[], rfl, .nil, Old.refl, fun b hb => (nomatch hb)⟩, ?_, ?_⟩
  · rintro i _ _ O' n hn rfl ⟨cs, rfl, hb, ho, hf⟩ us hu
    obtain ⟨u, rfl⟩ := List.length_eq_one_iff.1 hu
    refine ⟨rfl, rfl, fun q hq => ?_⟩
    refine ⟨_, _, (wd : Int), rfl, rfl, rfl, by omega, by omega, by simp; omega, fun p4 hp4 => ⟨cs ++ [p4], by simp, ?_, ?_, qF hf ((ho.upd (ho.nn hq)).nn hp4)⟩⟩
    · rw [Int.toNat_natCast, uh, List.replicate_succ']
      have j1 : Old O' (updO O' q (.lst [.d (.tuple [.str (Str.ofString " "), .int 0])])) := Old.refl.upd hq
      exact Paired.appP (Rws.old hb (j1.upd (j1.nn hp4))) (.cons zc .nil)
    · exact (ho.upd (ho.nn hq)).upd ((ho.upd (ho.nn hq)).nn hp4)
  · rintro _ O' ⟨cs, rfl, hb, ho, hf⟩ q hq
    have hcl : cs.length = m := by have := Paired.length hb; rwa [List.length_replicate] at this
    have n3q : p3 ≠ q := fun e => by rw [← e, ho p3 (by rw [h33]; simp), h33] at hq; cases hq
    have h34 : updO O' q (.lst (cs.map W.own)) p3 = some (.lst ((bs.map W.own).take r ++ (bs.map W.own).drop (r + m))) := by rw [zf n3q, ho p3 (by rw [h33]; simp), h33]
    refine ⟨(bs.map W.own).take r ++ (bs.map W.own).drop (r + m), by simp only [zj, h34], cs.map W.own, by simp only [zj, zc], by simp; omega, fun q2 hq2 => .inl ?_⟩
    have e : (bs.map W.own).take r ++ (bs.map W.own).drop (r + m) ++ cs.map W.own = (bs.take r ++ bs.drop (r + m) ++ cs).map W.own := by simp [List.map_take, List.map_drop]
    rw [e]
    have i4 : Old O' (updO O' q (.lst (cs.map W.own))) := Old.refl.upd hq
    have hb4 := Rws.old hp'.2 (ho.trans i4)
    exact h q2 _ _ (zn.new (Paired.appP (Paired.appP (Paired.takeP hb4 _) (Paired.dropP hb4 _)) (Rws.old hb i4)) hq2) (((o3.trans ho).trans i4).upd (((o3.trans ho).trans i4).nn hq2)) (((o3.trans ho).trans i4).nn hq2) (Zt fun c hc => o3.nn (hf c hc))
theorem kt (F : Fun K "_law_put" "_law_put" xQ f fd) (T : Txt K mg) : FnOk P w K mg base CX0 1 f fd ["_law_picture_here", "_law_row_here", "_law_many"] (zg K vq) := by
  have nd := vD.nd
  apply F.okV vD (by rintro _ _ _ ⟨a, b, c, d, e, g, i, rfl, _⟩; rfl) (fun cdv A outer sh H E hr => (zd (zk (i := 3) nd rfl (Or.inr rfl) (zF (yj (K := K) rfl) (by rfl) T.n_len (by rfl) (QA.pa (qc (zp (yt (K := K) rfl) (pv 0) za (fun _ _ => rfl)) qn))))
      (zd (uK (i := 4) nd rfl rfl (yT (N := ["_law_turn", "_law_wide"]) (n := 1) (js := [3])) rfl (zI rfl T.n_range (QA.pa (qc (pv 2) qn))) (fun _ _ _ _ => (zr (i := 0) (show List.Nodup (["_law_turn", "_law_wide"] : List Str) by decide +kernel) rfl (Or.inl rfl))) (fun _ _ _ _ => yd) (fun _ _ _ _ => (ze jw (xw (qc (z9 (qc zM (qc za qn))) qn)) (pv 1))))
      (zi (zt (zK (yk (K := K) rfl) (ze (yr (K := K) rfl) (ze (yr (K := K) rfl) (zK (yk (K := K) rfl) (pv 0) zT (zU (pv 1))) (pv 4)) (zK (yk (K := K) rfl) (pv 0) (zU (pv 1)) zT)) zT (zU (zF (yj (K := K) rfl) (by rfl) T.n_len (by rfl) (QA.pa (qc (pv 0) qn))))))))))
  · walk_at "ref"
  rintro _ O R ⟨a, bs, p, wd, hg, r, m, rfl, hp, ok, w1, h1, m0, hrm, h⟩
  walk_at "wd"
  have hbl := hp.len
  have hpl := ok.len
  obtain ⟨b0, _, ha0, hr0⟩ := hp.at (i := 0) (by omega)
  have hw0 := (ok.row (p[0]'(by omega)) (List.getElem_mem _)).1
  refine ⟨_, hp.seq, _, ha0, _, hr0.lenW, ?_⟩
  rw [hw0]
  refine ⟨by omega, by omega, fun i vs O' => ∃ cs, vs = cs.map W.own ∧ Rws O' cs (List.replicate i (zG wd)) ∧ Old O O' ∧ ∀ b ∈ cs, O b = none, ⟨[], rfl, .nil, Old.refl, fun b hb => (nomatch hb)⟩, ?_, ?_⟩
  · rintro i _ _ O' n hn rfl ⟨cs, rfl, hb, ho, hf⟩ us hu
    obtain ⟨u, rfl⟩ := List.length_eq_one_iff.1 hu
    refine ⟨rfl, rfl, fun q hq => ?_⟩
    refine ⟨_, _, (wd : Int), rfl, rfl, rfl, by omega, by omega, by simp; omega, fun p4 hp4 => ⟨cs ++ [p4], by simp, ?_, ?_, qF hf ((ho.upd (ho.nn hq)).nn hp4)⟩⟩
    · rw [Int.toNat_natCast, uh, List.replicate_succ']
      have j1 : Old O' (updO O' q (.lst [.d (.tuple [.str (Str.ofString " "), .int 0])])) := Old.refl.upd hq
      exact Paired.appP (Rws.old hb (j1.upd (j1.nn hp4))) (.cons zc .nil)
    · exact (ho.upd (ho.nn hq)).upd ((ho.upd (ho.nn hq)).nn hp4)
  · rintro _ O' ⟨cs, rfl, hb, ho, hf⟩ q hq
    have hcl : cs.length = m := by have := Paired.length hb; rwa [List.length_replicate] at this
    have hq1 : zn (updO O' q (.lst (cs.map W.own))) q cs (List.replicate m (zG wd)) := zn.new hb hq
    have ho1 := ho.upd (o := .lst (cs.map W.own)) (ho.nn hq)
    generalize updO O' q (.lst (cs.map W.own)) = O1 at *
    have hpO := hp.old ho1
    refine ⟨_, hpO.seq, fun p1 hp1 => ?_⟩
    rw [yf]
    have i1 : Old O1 (updO O1 p1 (.lst ((bs.map W.own).take r))) := Old.refl.upd hp1
    refine ⟨(bs.map W.own).take r, by simp only [zj, zc], _, (hq1.old i1).seq, by simp; omega, fun p2 hp2 => ?_⟩
    have i2 := i1.upd (o := .lst ((bs.map W.own).take r ++ cs.map W.own)) (i1.nn hp2)
    refine ⟨_, (hpO.old i2).seq, fun p3 hp3 => ?_⟩
    rw [yQ]
    have i3 := i2.upd (o := .lst ((bs.map W.own).drop r)) (i2.nn hp3)
    have n23 : p2 ≠ p3 := neO zc hp3
    refine ⟨(bs.map W.own).take r ++ cs.map W.own, by simp only [zj, zf n23, zc], (bs.map W.own).drop r, by simp only [zj, zc], by simp; omega, fun p4 hp4 => ?_⟩
    have i4 := i3.upd (o := .lst ((bs.map W.own).take r ++ cs.map W.own ++ (bs.map W.own).drop r)) (i3.nn hp4)
    refine ⟨_, (hpO.old i4).lenW, (bs.map W.own).take r ++ cs.map W.own ++ (bs.map W.own).drop r, by simp only [zj, zc], fun p5 hp5 => .inl ?_⟩
    rw [yf]
    have e : ((bs.map W.own).take r ++ cs.map W.own ++ (bs.map W.own).drop r).take p.length = ((bs.take r ++ cs ++ bs.drop r).take p.length).map W.own := by simp [List.map_take, List.map_drop]
    rw [e]
    have hb4 := Rws.old hpO.2 i4
    have hc4 := Rws.old hq1.2 i4
    exact h p5 _ _ (zn.new (Paired.takeP (Paired.appP (Paired.appP (Paired.takeP hb4 _) hc4) (Paired.dropP hb4 _)) _) hp5) ((ho1.trans i4).upd ((ho1.trans i4).nn hp5)) ((ho1.trans i4).nn hp5) (Zu hf)
theorem uT (F : Fun K "_law_copied" "_law_copied" yM f fd) (T : Txt K mg) : FnOk P w K mg base CX0 1 f fd ["_law_picture_here"] (zg K xJ) := by
  apply F.okV uw (by rintro _ _ _ ⟨a, b, rfl, _⟩; rfl) (fun cdv A outer sh H E hr => (zi (zt (xy (yT (N := ["_law_row_here"]) (n := 1) (js := [])) rfl (yq (K := K) rfl (pv 0)) (fun _ _ _ _ => (zr (i := 0) (show List.Nodup (["_law_row_here"] : List Str) by decide +kernel) rfl (Or.inl rfl))) (fun _ _ _ _ => yd) (fun _ _ _ _ => (yE (Za (K := K) rfl) (by rfl) T.n_list rfl (QA.pa (qc (pv 0) qn))))))))
  · walk_at "ref"
  rintro _ O R ⟨x, p, rfl, hp, l1, l2, h⟩
  obtain ⟨ws, hl, hs, hi⟩ := hp.seq
  walk_at "wd"
  refine ⟨ws, hs O Old.refl, by omega, fun i vs O' => ∃ bs, vs = bs.map W.own ∧ Rws O' bs (p.take i) ∧ Old O O' ∧ bs.Nodup ∧ ∀ b ∈ bs, O b = none, ⟨[], rfl, .nil, Old.refl, List.nodup_nil, fun b hb => (nomatch hb)⟩, fun i vs O' ⟨_, _, _, ho, _⟩ => hs O' ho, ?_, ?_⟩
  · rintro i w _ O' hw ⟨bs, rfl, hb, ho, nd, hf⟩ us hu
    obtain ⟨u, rfl⟩ := List.length_eq_one_iff.1 hu
    obtain ⟨r, hr, hd⟩ := hi i w hw
    refine ⟨rfl, rfl, _, hd O' ho, fun q hq => ⟨bs ++ [q], by simp, ?_, ho.upd (ho.nn hq), ?_, ?_⟩⟩
    · rw [List.take_add_one, hr]
      exact Paired.appP (Rws.old hb (Old.refl.upd hq)) (.cons zc .nil)
    · rw [List.nodup_append]
      refine ⟨nd, by simp, fun a ha b hb' => ?_⟩
      cases List.mem_singleton.1 hb'
      rintro rfl
      obtain ⟨r', _, hr'⟩ := Paired.getP hb (List.getElem?_eq_getElem (List.idxOf_lt_length_of_mem ha))
      rw [List.getElem_idxOf] at hr'
      rw [show O' _ = _ from hr'] at hq
      cases hq
    · intro b hb'
      rcases List.mem_append.1 hb' with hb' | hb'
      · exact hf b hb'
      · cases List.mem_singleton.1 hb'
        exact ho.nn hq
  · rintro _ O' ⟨bs, rfl, hb, ho, nd, hf⟩ q hq
    rw [hl, List.take_length] at hb
    refine .inl (h q bs _ (zn.new hb hq) (ho.upd (ho.nn hq)) nd (fun m => ?_) (ho.nn hq) hf)
    obtain ⟨r', _, hr'⟩ := Paired.getP hb (List.getElem?_eq_getElem (List.idxOf_lt_length_of_mem m))
    rw [List.getElem_idxOf] at hr'
    rw [show O' _ = _ from hr'] at hq
    cases hq
end
theorem UX : ¬ decide (V.str (Str.ofString "put") = V.str (Str.ofString "cut")) = true := by decide +kernel
theorem UY : ¬ decide (V.str (Str.ofString "write") = V.str (Str.ofString "cut")) = true := by decide +kernel
theorem UZ : ¬ decide (V.str (Str.ofString "write") = V.str (Str.ofString "put")) = true := by decide +kernel
theorem Yw {α : Type} {l : List α} {i : Nat} {x : α} (h : l[i]? = some x) : l.set i x = l := by
  obtain ⟨hi, rfl⟩ := List.getElem?_eq_some_iff.1 h
  exact List.set_getElem_self hi
section
variable {P : Program} {w : World} {K : PySem.W.Frag} {mg : Str → Option Value} {base : Heap} {f : Addr} {fd : FuncData}
theorem jb (F : Fun K "way_done" "way_done" xM f fd) (T : Txt K mg) (Jk : Cal P w K mg base 1 "copied" [] (zg K xJ)) (Jm : Cal P w K mg base 3 "with_cut" [] (zg K vp)) (Jn : Cal P w K mg base 3 "with_put" [] (zg K vq)) (Jo : Cal P w K mg base 1 "with_writing" [] (zg K Yr)) : FnOk P w K mg base CX0 4 f fd ["picture", "way"] (zg K ki) := by
  have nd := vA.nd
  apply F.okV vA (by rintro _ _ _ ⟨a, b, c, d, e, rfl, _⟩; rfl) (fun cdv A outer sh H E hr => (zd (zk (i := 2) nd rfl (Or.inl rfl) (zo Jk (hr.mono (by decide)) rfl (QA.pa (qc (pv 0) qn))))
      (zd (yo PassesOwn.never rfl (yq (K := K) rfl (pv 1)) (zr (i := 3) nd rfl (Or.inl rfl))
      (zi (yh (zJ yO (zp (zv (K := K) rfl) (pv 3) za (fun _ _ => rfl)) zM (zN _)) (zi (zk (i := 2) nd rfl (Or.inl rfl) (zo Jm (hr.mono (by decide)) rfl (QA.pa (qc (pv 2) (qc (zp (zv (K := K) rfl) (pv 3) za (fun _ _ => rfl)) (qc (zp (zv (K := K) rfl) (pv 3) za (fun _ _ => rfl)) qn))))))) (zi (yh (zJ yO (zp (zv (K := K) rfl) (pv 3) za (fun _ _ => rfl)) zM (zN _)) (zi (zk (i := 2) nd rfl (Or.inl rfl) (zo Jn (hr.mono (by decide)) rfl (QA.pa (qc (pv 2) (qc (zp (zv (K := K) rfl) (pv 3) za (fun _ _ => rfl)) (qc (zp (zv (K := K) rfl) (pv 3) za (fun _ _ => rfl)) qn))))))) (zi (kE (zo Jo (hr.mono (by decide)) rfl (QA.pa (qc (zp (yt (K := K) rfl) (pv 2) (zp (zv (K := K) rfl) (pv 3) za (fun _ _ => rfl)) (fun _ _ => rfl)) (qc (zp (zv (K := K) rfl) (pv 3) za (fun _ _ => rfl)) (qc (zp (zv (K := K) rfl) (pv 3) za (fun _ _ => rfl)) (qc (zp (zv (K := K) rfl) (pv 3) za (fun _ _ => rfl)) qn)))))) (kD (pv 2) (zp (zv (K := K) rfl) (pv 3) za (fun _ _ => rfl)) qd))))))))
      (zi (zt (pv 2))))))
  · walk_at "ref"
  rintro _ O R ⟨x, p, wd, hg, ds, rfl, hp, ok, w1, h0, h1, dl, hd, h⟩
  walk_at "wd"
  refine ⟨x, p, rfl, hp, by have := ok.len; omega, fun r hr => by have := (ok.row r hr).1; omega, fun q bs O1 hq ho _ _ hqn hfr => ?_⟩
  refine ⟨_, rfl, ?_⟩
  refine z7.by (fun i ρ O' => Old O O' ∧ ∃ q bs v3, zn O' q bs (doW wd p (ds.take i)) ∧ O q = none ∧ (∀ b ∈ bs, O b = none) ∧ ρ = [some x, some (.d (.list (ds.map ddD))), some (.own q), v3]) ⟨ho, q, bs, _, hq, hqn, hfr, rfl⟩ (fun i ρ O' h => rfl) ?_ ?_
  · rintro i w _ O2 e ⟨ho2, q, bs, v3, hq, hqn, hfr, rfl⟩ R2 hR2
    obtain ⟨d, ed, rfl⟩ : ∃ d, ds[i]? = some d ∧ w = .d (ddD d) := by
      rw [List.getElem?_map, List.getElem?_map] at e
      cases h : ds[i]? with
      | none => rw [h] at e; cases e
      | some d => rw [h] at e; cases e; exact ⟨d, rfl, rfl⟩
    have okd := hd d (List.mem_of_getElem? ed)
    have okp := ok.way (ds := ds.take i) fun x hx => hd x (List.mem_of_mem_take hx)
    have es : doW wd p (ds.take (i + 1)) = doD wd (doW wd p (ds.take i)) d := by
      unfold doW
      rw [List.take_add_one, ed, List.foldl_append]
      rfl
    cases d with
    | cut r m =>
      walk_at "wd"
      refine ⟨_, rfl, _, rfl, rfl, rfl, ?_⟩
      refine (iff_of_eq (if_pos (decide_eq_true (by rfl)))).mpr ?_
      exact ⟨_, rfl, _, rfl, _, rfl, _, rfl, q, bs, _, wd, hg, r, m, rfl, hq, okp, w1, h1, okd.1, okd.2, fun q2 cs O3 hq2 ho3 hn2 hc2 => hR2 _ _ ⟨ho2.trans ho3, q2, cs, _, by rw [es]; exact hq2, ho2.nn hn2, fun c hc => (hc2 c hc).elim (hfr c) ho2.nn, rfl⟩⟩
    | put r m =>
      walk_at "wd"
      refine ⟨_, rfl, _, rfl, rfl, rfl, ?_⟩
      refine (iff_of_eq (if_neg UX)).mpr ?_
      refine ⟨_, rfl, _, rfl, rfl, rfl, ?_⟩
      refine (iff_of_eq (if_pos (decide_eq_true (by rfl)))).mpr ?_
      exact ⟨_, rfl, _, rfl, _, rfl, _, rfl, q, bs, _, wd, hg, r, m, rfl, hq, okp, w1, h1, okd.1, okd.2, fun q2 cs O3 hq2 ho3 hn2 hc2 => hR2 _ _ ⟨ho2.trans ho3, q2, cs, _, by rw [es]; exact hq2, ho2.nn hn2, fun c hc => (hc2 c hc).elim (hfr c) ho2.nn, rfl⟩⟩
    | wr r c t ink =>
      walk_at "wd"
      refine ⟨_, rfl, _, rfl, rfl, rfl, ?_⟩
      refine (iff_of_eq (if_neg UY)).mpr ?_
      refine ⟨_, rfl, _, rfl, rfl, rfl, ?_⟩
      refine (iff_of_eq (if_neg UZ)).mpr ?_
      obtain ⟨xr, hx, hxd, xl, xk⟩ := okp.get okd.1
      have hlen := okp.len
      have hr0 := okd.1
      have hc0 := okd.2.1
      obtain ⟨b, hb, hat, hrow⟩ := hq.at (i := r) (by omega)
      rw [List.getElem?_eq_getElem (by omega)] at hx
      rw [Option.some.inj hx] at hrow
      refine ⟨_, rfl, _, rfl, _, hq.seq, _, hat, _, rfl, _, rfl, _, rfl, _, rfl, _, rfl, _, rfl, b, xr, c, t, ink, rfl, hrow, by omega, okd.2.2, by omega, fun q2 O3 hn2 hq2 ho3 => ?_⟩
      have hq3 := hq.old ho3
      refine ⟨_, rfl, _, rfl, _, rfl, _, hq3.setO (by omega) _, hR2 _ _ ⟨(ho2.trans ho3).upd hqn, q, bs.set r q2, _, ?_, hqn, fun c hc => (List.mem_or_eq_of_mem_set hc).elim (hfr c) (fun e => by rw [e]; exact ho2.nn hn2), rfl⟩⟩
      rw [es]
      show zn _ q _ ((doW wd p (ds.take i)).set r (wrR ((doW wd p (ds.take i)).getD r []) c t ink))
      rw [hxd]
      exact hq3.put (by omega) hq2
  · rintro _ O2 ⟨ho2, q, bs, v3, hq, hqn, hfr, rfl⟩
    walk_at "wd"
    rw [List.length_map, List.length_map, List.take_length] at hq
    exact .inl (h q bs O2 hq ho2 hqn hfr)
theorem jc (F : Fun K "_law_deed" "_law_deed" xn f fd) (T : Txt K mg) (Q7 : Cal P w K mg base 1 "_law_copied" [] (zg K xJ)) (Q8 : Cal P w K mg base 1 "_law_cut" [] (zg K vp)) (Je : Cal P w K mg base 1 "_law_put" [] (zg K vq)) : FnOk P w K mg base CX0 2 f fd ["_law_picture_here", "_law_deed_here"] (zg K qG) := by
  have nd := x8.nd
  apply F.okV x8 (by rintro _ _ _ ⟨a, b, c, d, e, rfl, _⟩; rfl) (fun cdv A outer sh H E hr => (zd (zk (i := 2) nd rfl (Or.inl rfl) (zo Q7 (hr.mono (by decide)) rfl (QA.pa (qc (pv 0) qn))))
      (zd (yh (zJ yO (zp (zv (K := K) rfl) (pv 1) za (fun _ _ => rfl)) zM (zN _)) (zi (zt (zo Q8 (hr.mono (by decide)) rfl (QA.pa (qc (pv 2) (qc (zp (zv (K := K) rfl) (pv 1) za (fun _ _ => rfl)) (qc (zp (zv (K := K) rfl) (pv 1) za (fun _ _ => rfl)) qn))))))) zW)
      (zd (yh (zJ yO (zp (zv (K := K) rfl) (pv 1) za (fun _ _ => rfl)) zM (zN _)) (zi (zt (zo Je (hr.mono (by decide)) rfl (QA.pa (qc (pv 2) (qc (zp (zv (K := K) rfl) (pv 1) za (fun _ _ => rfl)) (qc (zp (zv (K := K) rfl) (pv 1) za (fun _ _ => rfl)) qn))))))) zW)
      (zd (yo PassesOwn.never rfl (Yf rfl T.n_enumerate (QA.pa (qc (zp (zv (K := K) rfl) (pv 1) za (fun _ _ => rfl)) qn))) (X2 (K := K) (n := 2) rfl rfl (u4 (zr (i := 3) nd rfl (Or.inl rfl)) (u4 (zr (i := 4) nd rfl (Or.inl rfl)) Xq)))
      (zi (kE (z9 (qc (pv 4) (qc (zp (zv (K := K) rfl) (pv 1) za (fun _ _ => rfl)) qn))) (kD (zp (yt (K := K) rfl) (pv 2) (zp (zv (K := K) rfl) (pv 1) za (fun _ _ => rfl)) (fun _ _ => rfl)) (ze zu (zp (zv (K := K) rfl) (pv 1) za (fun _ _ => rfl)) (pv 3)) qd))))
      (zi (zt (pv 2))))))))
  · walk_at "ref"
  rintro _ O R ⟨x, p, wd, hg, d, rfl, hp, ok, w1, h0, h1, hd, h⟩
  cases d with
  | cut r m =>
    walk_at "wd"
    refine ⟨x, p, rfl, hp, by have := ok.len; omega, fun r hr => by have := (ok.row r hr).1; omega, fun q bs O1 hq ho _ _ hqn _ => ?_⟩
    refine ⟨_, rfl, _, rfl, rfl, rfl, ?_⟩
    refine (iff_of_eq (if_pos (decide_eq_true (by rfl)))).mpr ?_
    exact ⟨_, rfl, _, rfl, _, rfl, _, rfl, q, bs, _, wd, hg, r, m, rfl, hq, ok, w1, h1, hd.1, hd.2, fun q2 cs O3 hq2 ho3 hn2 _ => .inl (h _ _ _ hq2 (ho.trans ho3))⟩
  | put r m =>
    walk_at "wd"
    refine ⟨x, p, rfl, hp, by have := ok.len; omega, fun r hr => by have := (ok.row r hr).1; omega, fun q bs O1 hq ho _ _ hqn _ => ?_⟩
    refine ⟨_, rfl, _, rfl, rfl, rfl, ?_⟩
    refine (iff_of_eq (if_neg UX)).mpr ?_
    refine ⟨_, rfl, _, rfl, rfl, rfl, ?_⟩
    refine (iff_of_eq (if_pos (decide_eq_true (by rfl)))).mpr ?_
    exact ⟨_, rfl, _, rfl, _, rfl, _, rfl, q, bs, _, wd, hg, r, m, rfl, hq, ok, w1, h1, hd.1, hd.2, fun q2 cs O3 hq2 ho3 hn2 _ => .inl (h _ _ _ hq2 (ho.trans ho3))⟩
  | wr r c t ink =>
    walk_at "wd"
    refine ⟨x, p, rfl, hp, by have := ok.len; omega, fun r hr => by have := (ok.row r hr).1; omega, fun q bs O1 hq ho hnd _ hqn hfr => ?_⟩
    refine ⟨_, rfl, _, rfl, rfl, rfl, ?_⟩
    refine (iff_of_eq (if_neg UY)).mpr ?_
    refine ⟨_, rfl, _, rfl, rfl, rfl, ?_⟩
    refine (iff_of_eq (if_neg UZ)).mpr ?_
    obtain ⟨xr, hx, hxd, xl, xk⟩ := ok.get hd.1
    have hlen := ok.len
    have hr0 := hd.1
    have hc0 := hd.2.1
    obtain ⟨b, hb, _, _⟩ := hq.at (i := r) (by omega)
    refine ⟨_, rfl, _, rfl, _, rfl, fun i hi => by have := hd.2.2 t.cps[i] (by simp); omega, ?_⟩
    refine z7.by (fun i ρ O' => Old O O' ∧ ∃ v3 v4, zn O' q bs (p.set r (wrS xr c t ink i)) ∧ ρ = [some x, some (.d (ddD (.wr r c t ink))), some (.own q), v3, v4]) ⟨ho, _, _, by rw [Ys, Yw hx]; exact hq, rfl⟩ (fun i ρ O' h => trivial) ?_ ?_
    · rintro i w _ O2 e ⟨ho2, v3, v4, hq2, rfl⟩ R2 hR2
      obtain ⟨k, hk, rfl⟩ : ∃ k, t.cps.toList[i]? = some k ∧ w = .d (.tuple [.int i, .str ⟨#[k]⟩]) := by
        unfold ub at e
        rw [List.getElem?_zipWith] at e
        cases h1 : (List.range t.cps.size)[i]? with
        | none => rw [h1] at e; cases e
        | some j =>
          cases h2 : t.cps.toList[i]? with
          | none => rw [h1, h2] at e; cases e
          | some k =>
            rw [h1, h2] at e
            have := (List.getElem?_eq_some_iff.1 h1)
            obtain ⟨hj, ej⟩ := this
            rw [List.getElem_range] at ej
            subst ej
            exact ⟨k, rfl, (Option.some.inj e).symm⟩
      refine Qp ?_ (by simp) (by simp)
      walk_at "wd"
      obtain ⟨b', hb', hat, hrow⟩ := hq2.at (i := r) (by rw [List.length_set]; omega)
      rw [hb] at hb'
      cases hb'
      rw [List.getElem_set_self] at hrow
      have hil : i < t.length := (List.getElem?_eq_some_iff.1 hk).1
      have hwl := jy (ink := ink) (r := xr) (c := c) (t := t) (by omega) (Nat.le_of_lt hil)
      have hO : O2 b = some (.lst (((wrS xr c t ink i).map zw).map .d)) := hrow
      refine ⟨_, rfl, _, rfl, _, rfl, _, rfl, _, hq2.seq, _, hat, _, rfl, _, rfl, updO O2 b (.lst (((wrS xr c t ink (i + 1)).map zw).map .d)), ?_, hR2 _ _ ⟨ho2.upd (hfr b (List.mem_of_getElem? hb)), _, _, ?_, rfl⟩⟩
      · have ec : ((c : Int) + (i : Int)) = ((c + i : Nat) : Int) := by omega
        rw [← Yt (by omega) hk]
        show vL O2 (.own b) ((c : Int) + (i : Int)) (.d (zw (⟨#[k]⟩, ink))) = _
        rw [ec]
        simp only [vL, hO]
        rw [jt (by omega) (by simp only [List.length_map]; omega)]
        simp only [List.map_set]
        rfl
      · have := hq2.setRow hnd hb (wrS xr c t ink (i + 1))
        rw [List.set_set] at this
        exact this
    · rintro _ O2 ⟨ho2, v3, v4, hq2, rfl⟩
      walk_at "wd"
      rw [uJ, show t.cps.size = t.length from rfl, Yu (by omega)] at hq2
      refine .inl (h q bs O2 ?_ ho2)
      show zn _ q _ (p.set r (wrR (p.getD r []) c t ink))
      rw [hxd]
      exact hq2
end
theorem _root_.L2.CellW.old {O O' : OM} {r c : Nat} {b : Addr} (h : CellW O r c b) (ho : Old O O') : CellW O' r c b := by
  unfold CellW at *
  rw [ho b (by rw [h]; simp)]
  exact h
theorem _root_.L2.PairW.old {O O' : OM} {r : Nat} {w : W} (h : PairW O r w) (ho : Old O O') : PairW O' r w := by
  obtain ⟨t, b, c, rfl, h1, h2, h3⟩ := h
  exact ⟨t, b, c, rfl, by rw [ho t (by rw [h1]; simp)]; exact h1, h2.old ho, h3⟩
theorem qJ : ∀ (es : List PyData), (∀ d ∈ es, ∃ k : Nat, 32 ≤ k ∧ k ≤ 126 ∧ d = .str ⟨#[k]⟩) → ∃ ks : List Nat, es = ks.map (fun k => PyData.str ⟨#[k]⟩) ∧ ∀ k ∈ ks, 32 ≤ k ∧ k ≤ 126
  | [], _ => ⟨[], rfl, fun k hk => (nomatch hk)⟩
  | d :: es, h => by
    obtain ⟨k, k0, k1, rfl⟩ := h d List.mem_cons_self
    obtain ⟨ks, rfl, hk⟩ := qJ es fun x hx => h x (List.mem_cons_of_mem _ hx)
    refine ⟨k :: ks, rfl, fun z hz => ?_⟩
    rcases List.mem_cons.1 hz with rfl | hz
    · exact ⟨k0, k1⟩
    · exact hk z hz
theorem qK : ∀ ks : List Nat, ((ks.map fun k => (⟨#[k]⟩ : Str)).map (fun x => x.length)).sum = ks.length
  | [] => rfl
  | k :: ks => by
    rw [List.map_cons, List.map_cons, List.sum_cons, qK ks, List.length_cons]
    show 1 + ks.length = ks.length + 1
    omega
section
variable {P : Program} {w : World} {K : PySem.W.Frag} {mg : Str → Option Value} {base : Heap} {f : Addr} {fd : FuncData}
theorem qL (F : Fun K "_law_drawn" "_law_drawn" yZ f fd) (T : Txt K mg) (Jc : Cal P w K mg base 2 "_law_mixed" [] (zg K ua)) (Jb : Cal P w K mg base 1 "_law_ink" [] (zg K uW)) (Jg : Cal P w K mg base 1 "_law_sign" [] (zg K x4)) : FnOk P w K mg base CX0 3 f fd ["_law_script", "_law_wide", "_law_high"] (zg K uv) := by
  have nd := xT.nd
  apply F.okV xT (by rintro _ _ _ ⟨a, b, c, rfl, _⟩; rfl) (fun cdv A outer sh H E hr => (zd (zk (i := 3) nd rfl (Or.inl rfl) (xw qn))
      (zd (yo PassesOwn.never rfl (zI rfl T.n_range (QA.pa (qc za qn))) (zr (i := 4) nd rfl (Or.inl rfl))
      (zd (zk (i := 5) nd rfl (Or.inl rfl) za)
      (zi (yo PassesOwn.never rfl (zI rfl T.n_range (QA.pa (qc (ze zq (zo Jc (hr.mono (by decide)) rfl (QA.pa (qc (pv 0) (qc (ze zu za (pv 4)) qn)))) za) qn))) (zr (i := 6) nd rfl (Or.inr rfl))
      (zd (zk (i := 7) nd rfl (Or.inr rfl) (zo Jc (hr.mono (by decide)) rfl (QA.pa (qc (pv 0) (qc (ze zu (ze zu za (ze yy za (pv 4))) (pv 6)) qn)))))
      (zd (zk (i := 5) nd rfl (Or.inl rfl) (ze zu (pv 5) (ze zq (pv 7) za)))
      (zi (yh (zJ YD (pv 5) (pv 2) (zN _)) (zd (yv (xx (K := K) rfl PySem.F.plainAttrs_list PySem.F.slot_list_append PySem.F.type_list_append yF (pv 3) (QA.pa (qc (z9 (qc (zp (yt (K := K) rfl) (yw (qc zM (qc zM qn))) (pv 4) (fun _ _ => rfl)) (qc (pv 5) (qc (ze zu za (ze zq (ze zC (pv 7) za) (ze u6 (pv 2) (pv 5)))) qn)))) qn))))
      (zi (zk (i := 5) nd rfl (Or.inl rfl) (ze zu (pv 5) (pv 4))))) zW))))))))
      (zd (zk (i := 8) nd rfl (Or.inr rfl) ZP)
      (zd (yo PassesOwn.never rfl (zI rfl T.n_range (QA.pa (qc (ze zq (zo Jc (hr.mono (by decide)) rfl (QA.pa (qc (pv 0) (qc za qn)))) za) qn))) (zr (i := 6) nd rfl (Or.inr rfl))
      (zd (zk (i := 7) nd rfl (Or.inr rfl) (zo Jc (hr.mono (by decide)) rfl (QA.pa (qc (pv 0) (qc (ze zu za (pv 6)) qn)))))
      (zd (zk (i := 9) nd rfl (Or.inr rfl) (ze zq (ze zC (pv 7) za) (pv 1)))
      (zd (zk (i := 10) nd rfl (Or.inl rfl) (ze zu za (ze zq (ze zC (pv 7) za) (ze u6 (pv 1) (pv 9)))))
      (zd (uK (i := 11) nd rfl rfl (yT (N := ["_law_j", "_law_number", "_law_high", "_law_place"]) (n := 1) (js := [7, 2, 9])) rfl (zI rfl T.n_range (QA.pa (qc (pv 10) qn))) (fun _ _ _ _ => (zr (i := 0) (show List.Nodup (["_law_j", "_law_number", "_law_high", "_law_place"] : List Str) by decide +kernel) rfl (Or.inl rfl))) (fun _ _ _ _ => yd) (fun _ _ _ _ => (jx (qc (ze zq (pv 1) (pv 2)) (qc (ze zu (pv 3) (pv 0)) qn)))))
      (zi (yh (zJ (US (K := K) rfl hr.units) (xy (yT (N := ["_law_cell", "_law_met"]) (n := 1) (js := [8])) rfl (yq (K := K) rfl (pv 11)) (fun _ _ _ _ => (zr (i := 0) (show List.Nodup (["_law_cell", "_law_met"] : List Str) by decide +kernel) rfl (Or.inl rfl))) (fun _ _ _ _ => (XD (Vo (VU (U6 hr) (pv 0) (pv 1))))) (fun _ _ _ _ => (pv 0))) (yw qn) (zN _)) (zd (zk (i := 12) nd rfl (Or.inl rfl) (xx (K := K) rfl PySem.F.plainAttrs_str PySem.F.slot_str_join PySem.F.type_str_join (X5 (K := K) rfl) zM (QA.pa (qc (UE (yT (N := ["_law_j", "_law_number", "_law_k"]) (n := 1) (js := [7, 6])) rfl (zI rfl T.n_range (QA.pa (qc (pv 10) qn))) (fun _ _ _ _ => (zr (i := 0) (show List.Nodup (["_law_j", "_law_number", "_law_k"] : List Str) by decide +kernel) rfl (Or.inl rfl))) (fun _ _ _ _ => yd) (fun _ _ _ _ => (zo Jg (hr.mono (by decide)) rfl (QA.pa (qc (ze zC (pv 1) (ze zu (ze zu (pv 2) (pv 0)) za)) qn))))) qn))))
      (zd (yv (xx (K := K) rfl PySem.F.plainAttrs_list PySem.F.slot_list_append PySem.F.type_list_append yF (pv 3) (QA.pa (qc (z9 (qc zM (qc (ze zq (pv 7) (pv 2)) (qc (pv 9) (qc (pv 12) (qc (zo Jb (hr.mono (by decide)) rfl (QA.pa (qc (ze zC (pv 7) za) qn))) qn)))))) qn))))
      (zi (yv (xx (K := K) rfl PySem.F.plainAttrs_dict PySem.F.slot_dict_update PySem.F.type_dict_update (UU hr.units) (pv 8) (QA.pa (qc (yE (Yn (K := K) rfl rfl hr.units) (by rfl) T.n_dict rfl (QA.pa (qc (xy (yT (N := ["_law_cell"]) (n := 1) (js := [])) rfl (yq (K := K) rfl (pv 11)) (fun _ _ _ _ => (zr (i := 0) (show List.Nodup (["_law_cell"] : List Str) by decide +kernel) rfl (Or.inl rfl))) (fun _ _ _ _ => yd) (fun _ _ _ _ => (jx (qc (pv 0) (qc jB qn))))) qn))) qn))))))) zW)))))))
      (zi (zt (pv 3))))))))
  · walk_at "ref"
  rintro _ O R ⟨ns, wd, hg, rfl, w0, w1, h0, h1, h⟩
  refine kj (fun ρ' O' => ∃ p v4 v5 v6 v7, ∃ ds : List Dd, Old O O' ∧ O p = none ∧ O' p = some (.lst ((ds.map ddD).map .d)) ∧ ds.length ≤ 6 ∧ (∀ d ∈ ds, okDd wd hg d) ∧ ρ' = [some (.d (.list (ns.map .int))), some (.d (.int wd)), some (.d (.int hg)), some (.own p), v4, v5, v6, v7, none, none, none, none, none]) (fun R1 hR1 => ?_) ?_
  · walk_at "wd"
    intro p hp
    refine z7.rng (n := 2) (f := fun i => (i : Int)) (fun i ρ O' => ∃ v4 v5 v6 v7, ∃ ds : List Dd, Old O O' ∧ O' p = some (.lst ((ds.map ddD).map .d)) ∧ ds.length ≤ 3 * i ∧ (∀ d ∈ ds, okDd wd hg d) ∧ ρ = [some (.d (.list (ns.map .int))), some (.d (.int wd)), some (.d (.int hg)), some (.own p), v4, v5, v6, v7, none, none, none, none, none]) ⟨_, _, _, _, [], Old.refl.upd hp, zc, by simp, fun d hd => (nomatch hd), rfl⟩ ?_ ?_
    · rintro i _ O2 hi ⟨v4, v5, v6, v7, ds, ho2, hp2, dl, dk, rfl⟩ R2 hR2
      walk_at "wd"
      refine ⟨ns, 8 + i, rfl, by omega, fun n n0 n1 => ⟨by decide, by omega, by omega, ?_⟩⟩
      refine z7.rng (f := fun j => (j : Int)) (fun j ρ O' => ∃ v6 v7, ∃ r : Nat, ∃ ds : List Dd, Old O O' ∧ O' p = some (.lst ((ds.map ddD).map .d)) ∧ ds.length ≤ 3 * i + j ∧ (∀ d ∈ ds, okDd wd hg d) ∧ ρ = [some (.d (.list (ns.map .int))), some (.d (.int wd)), some (.d (.int hg)), some (.own p), some (.d (.int i)), some (.d (.int r)), v6, v7, none, none, none, none, none]) ⟨_, _, 0, ds, ho2, hp2, by omega, dk, rfl⟩ ?_ ?_
      · rintro j _ O3 hj ⟨v6, v7, r, ds, ho3, hp3, dl, dk, rfl⟩ R3 hR3
        have hj3 : j < 4 := by omega
        refine kj (fun ρ' O' => ∃ n : Int, ∃ r : Nat, 0 ≤ n ∧ ρ' = [some (.d (.list (ns.map .int))), some (.d (.int wd)), some (.d (.int hg)), some (.own p), some (.d (.int i)), some (.d (.int r)), some (.d (.int j)), some (.d (.int n)), none, none, none, none, none] ∧ O3 = O') (fun R4 hR4 => ?_) ?_
        · walk_at "wd"
          have hi2 : i = 0 ∨ i = 1 := by omega
          refine ⟨mulL (by decide) (by decide), ns, 10 + 3 * i + j, by simp, by omega, fun n n0 n1 => ⟨by decide, hR4 _ _ ⟨n, r + (n % 3).toNat, n0, ?_, rfl⟩⟩⟩
          have : ((r + (n % 3).toNat : Nat) : Int) = (r : Int) + n % 3 := by omega
          rw [this]
        rintro _ _ ⟨n, r, n0, rfl, rfl⟩
        walk_at "wd"
        have ty : tyW "list" O3 (.own p) := .inl ⟨rfl, by simp [zj, hp3]⟩
        split
        · rename_i hr
          have m0 : 0 ≤ n / 3 % ((hg : Int) - r) := Int.emod_nonneg _ (by omega)
          have m1 : n / 3 % ((hg : Int) - r) < (hg : Int) - r := Int.emod_lt_of_pos _ (by omega)
          generalize n / 3 % ((hg : Int) - r) = m at m0 m1
          obtain ⟨m, rfl⟩ := Int.eq_ofNat_of_zero_le m0
          have e1 : (1 + (m : Int)) = ((1 + m : Nat) : Int) := by omega
          have e2 : (r : Int) + (i : Int) = ((r + i : Nat) : Int) := by omega
          rw [e1, e2]
          have ap : ∀ d : Dd, xi O3 (.own p) (.d (ddD d)) = some (updO O3 p (.lst (((ds ++ [d]).map ddD).map .d))) := fun d => by
            simp only [xi, hp3]
            rw [if_pos (by rw [List.length_map, List.length_map]; omega)]
            simp
          have fin : ∀ d : Dd, okDd wd hg d → R3 [some (.d (.list (ns.map .int))), some (.d (.int wd)), some (.d (.int hg)), some (.own p), some (.d (.int i)), some (.d (.int ((r + i : Nat) : Int))), some (.d (.int j)), some (.d (.int n)), none, none, none, none, none] (updO O3 p (.lst (((ds ++ [d]).map ddD).map .d))) := fun d hd =>
            hR3 _ _ ⟨_, _, r + i, ds ++ [d], ho3.upd hp, zc, by simp; omega, fun x hx => by
              rcases List.mem_append.1 hx with hx | hx
              · exact dk x hx
              · cases List.mem_singleton.1 hx
                exact hd, rfl⟩
          rcases (show i = 0 ∨ i = 1 by omega) with rfl | rfl
          · exact ⟨ty, _, rfl, _, rfl, ⟨by omega, by omega⟩, hr, _, rfl, by show 3 ≤ 1000; omega, _, ap (.cut r (1 + m)), fin _ ⟨by omega, by omega⟩⟩
          · exact ⟨ty, _, rfl, _, rfl, ⟨by omega, by omega⟩, hr, _, rfl, by show 3 ≤ 1000; omega, _, ap (.put r (1 + m)), fin _ ⟨by omega, by omega⟩⟩
        · exact hR3 _ _ ⟨_, _, r, ds, ho3, hp3, by omega, dk, rfl⟩
      · rintro _ O3 ⟨v6, v7, r, ds, ho3, hp3, dl, dk, rfl⟩
        exact hR2 _ _ ⟨_, _, _, _, ds, ho3, hp3, by omega, dk, rfl⟩
    · rintro _ O2 ⟨v4, v5, v6, v7, ds, ho2, hp2, dl, dk, rfl⟩
      exact hR1 _ _ ⟨p, v4, v5, v6, v7, ds, ho2, hp, hp2, dl, dk, rfl⟩
  rintro _ O1 ⟨p, v4, v5, v6, v7, ds, ho1, hp, hp1, dl, dk, rfl⟩
  refine kj (fun ρ' O' => ∃ v4 v5 v6 v7 v8 v9 v10 v11 v12, ∃ ds : List Dd, Old O O' ∧ O' p = some (.lst ((ds.map ddD).map .d)) ∧ ds.length ≤ 100 ∧ (∀ d ∈ ds, okDd wd hg d) ∧ ρ' = [some (.d (.list (ns.map .int))), some (.d (.int wd)), some (.d (.int hg)), some (.own p), v4, v5, v6, v7, v8, v9, v10, v11, v12]) (fun R1 hR1 => ?_) ?_
  · walk_at "wd"
    intro pm hpm
    have hpp : p ≠ pm := neO hp1 hpm
    refine ⟨ns, 16, rfl, by omega, fun n n0 n1 => ⟨by decide, by omega, by omega, ?_⟩⟩
    have hpm0 : O pm = none := ho1.nn hpm
    refine z7.rng (f := fun j => (j : Int)) (fun j ρ O' => ∃ v4 v5 v6 v7 v9 v10 v11 v12, ∃ m : Nat, ∃ ds : List Dd, Old O O' ∧ O' p = some (.lst ((ds.map ddD).map .d)) ∧ O' pm = some (.raw (yL m)) ∧ m ≤ 24 * j ∧ ds.length ≤ 6 + j ∧ (∀ d ∈ ds, okDd wd hg d) ∧ ρ = [some (.d (.list (ns.map .int))), some (.d (.int wd)), some (.d (.int hg)), some (.own p), v4, v5, v6, v7, some (.own pm), v9, v10, v11, v12]) ⟨_, _, _, _, _, _, _, _, 0, ds, ho1.upd hpm0, by rw [zf hpp]; exact hp1, zc, by omega, by omega, dk, rfl⟩ ?_ ?_
    · rintro j _ O2 hj ⟨v4, v5, v6, v7, v9, v10, v11, v12, m, ds, ho2, hp2, hpm2, ml, dl, dk, rfl⟩ R2 hR2
      have hj7 : j < 7 := by omega
      refine uX (fun ρ' O' => ∃ n : Int, ∃ pl sz : Nat, 0 ≤ n ∧ n < 3000000000 ∧ 1 ≤ sz ∧ pl + sz ≤ wd ∧ ρ' = [some (.d (.list (ns.map .int))), some (.d (.int wd)), some (.d (.int hg)), some (.own p), v4, v5, some (.d (.int j)), some (.d (.int n)), some (.own pm), some (.d (.int pl)), some (.d (.int sz)), v11, v12] ∧ O2 = O') (fun R3 hR3 => ?_) ?_
      · walk_at "wd"
        refine ⟨ns, 17 + j, rfl, by omega, fun n n0 n1 => ⟨⟨by omega, by omega⟩, by omega, ⟨by omega, by omega⟩, Int.emod_lt_of_pos _ (by omega), ?_⟩⟩
        have p0 : 0 ≤ n / 12 % (wd : Int) := Int.emod_nonneg _ (by omega)
        have p1 : n / 12 % (wd : Int) < wd := Int.emod_lt_of_pos _ (by omega)
        generalize n / 12 % (wd : Int) = pl at p0 p1
        obtain ⟨pl, rfl⟩ := Int.eq_ofNat_of_zero_le p0
        have m0 : 0 ≤ n / 288 % ((wd : Int) - pl) := Int.emod_nonneg _ (by omega)
        have m1 : n / 288 % ((wd : Int) - pl) < (wd : Int) - pl := Int.emod_lt_of_pos _ (by omega)
        generalize n / 288 % ((wd : Int) - pl) = s at m0 m1
        obtain ⟨s, rfl⟩ := Int.eq_ofNat_of_zero_le m0
        exact hR3 _ _ ⟨n, pl, 1 + s, n0, by omega, by omega, by omega, by simp, rfl⟩
      rintro _ _ ⟨n, pl, sz, n0, n1, sz0, ps, rfl, rfl⟩
      refine vN (fun ρ' O' => ∃ q, ∃ cs : List Addr, Old O2 O' ∧ O2 q = none ∧ O' q = some (.lst (cs.map W.own)) ∧ cs.length = sz ∧ (∀ (i : Nat) (c : Addr), cs[i]? = some c → CellW O' (n.toNat % hg) (pl + i) c) ∧ ρ' = [some (.d (.list (ns.map .int))), some (.d (.int wd)), some (.d (.int hg)), some (.own p), v4, v5, some (.d (.int j)), some (.d (.int n)), some (.own pm), some (.d (.int pl)), some (.d (.int sz)), some (.own q), v12]) (fun R3 hR3 => ?_) ?_
      · walk_at "wd"
        refine ⟨by omega, by omega, fun i vs O' => ∃ cs : List Addr, vs = cs.map W.own ∧ Old O2 O' ∧ cs.length = i ∧ ∀ (k : Nat) (c : Addr), cs[k]? = some c → CellW O' (n.toNat % hg) (pl + k) c, ⟨[], rfl, Old.refl, rfl, fun k c hc => by simp at hc⟩, ?_, ?_⟩
        · rintro i _ _ O' x hx rfl ⟨cs, rfl, ho, hl, hc⟩ us hu
          obtain ⟨u, rfl⟩ := List.length_eq_one_iff.1 hu
          have hxi : i = x := by
            obtain ⟨g1, g2⟩ := List.getElem?_eq_some_iff.1 hx
            rw [List.getElem_range] at g2
            exact g2
          subst hxi
          refine ⟨rfl, rfl, (show (0 : Int) < hg by omega), fun a ha => ⟨cs ++ [a], by simp, ho.upd (ho.nn ha), by simp [hl], fun k c hk => ?_⟩⟩
          rw [List.getElem?_append] at hk
          split at hk
          · exact (hc k c hk).old (Old.refl.upd ha)
          · rename_i hkl
            have hk0 : k - cs.length = 0 := by
              rcases Nat.eq_zero_or_pos (k - cs.length) with z | z
              · exact z
              · rw [List.getElem?_eq_none (by simp; omega)] at hk; cases hk
            rw [hk0] at hk
            cases hk
            have ek : k = i := by omega
            subst ek
            unfold CellW
            rw [zc]
            have e1 : n % (hg : Int) = ((n.toNat % hg : Nat) : Int) := by
              obtain ⟨m, rfl⟩ := Int.eq_ofNat_of_zero_le n0
              rfl
            rw [e1]
            rfl
        · rintro _ O' ⟨cs, rfl, ho, hl, hc⟩ a ha
          exact hR3 _ _ ⟨a, cs, ho.upd (ho.nn ha), ho.nn ha, zc, hl, fun k c hk => (hc k c hk).old (Old.refl.upd ha), rfl⟩
      rintro _ O3 ⟨q, cs, ho3, hq2, hq3, cl, ck, rfl⟩
      have hp3 : O3 p = some (.lst ((ds.map ddD).map .d)) := by rw [ho3 p (by rw [hp2]; simp)]; exact hp2
      have hpm3 : O3 pm = some (.raw (yL m)) := by rw [ho3 pm (by rw [hpm2]; simp)]; exact hpm2
      have yV : ∀ w ∈ cs.map W.own, ∃ r c b, w = W.own b ∧ CellW O3 r c b := fun w hw => by
        obtain ⟨b, hb, rfl⟩ := List.mem_map.1 hw
        obtain ⟨i, hi⟩ := List.mem_iff_getElem?.1 hb
        exact ⟨_, _, b, rfl, ck i b hi⟩
      walk_at "wd"
      refine ⟨cs.map W.own, by simp only [zj, hq3], by simp; omega, fun i vs O' => O' = O3 ∧ ∀ w ∈ vs, ∃ r c b, w = W.own b ∧ CellW O3 r c b, ⟨rfl, fun w hw => (nomatch hw)⟩, fun i vs O' hJ => by rw [hJ.1]; simp only [zj, hq3], ?_, ?_⟩
      · rintro i w vs _ hw ⟨rfl, hv⟩ us hu
        obtain ⟨u, rfl⟩ := List.length_eq_one_iff.1 hu
        obtain ⟨r, c, b, rfl, hb⟩ := yV w (List.mem_of_getElem? hw)
        refine ⟨rfl, rfl, pm, b, rfl, rfl, ⟨_, _, hb⟩, ⟨_, hpm3⟩, ⟨rfl, hv⟩, rfl, fun w' hw' => ?_⟩
        rcases List.mem_append.1 hw' with hw' | hw'
        · exact hv w' hw'
        · cases List.mem_singleton.1 hw'
          exact ⟨_, _, b, rfl, hb⟩
      · rintro vs O' ⟨e, hv⟩ a ha
        rw [e] at ha ⊢
        clear e
        have oa : Old O3 (updO O3 a (.lst vs)) := Old.refl.upd ha
        refine ⟨fun w hw => by obtain ⟨r, c, b, e, hb⟩ := hv w hw; exact ⟨r, c, b, e, hb.old oa⟩, ?_⟩
        have oO : Old O (updO O3 a (.lst vs)) := (ho2.trans ho3).trans oa
        have hp4 : updO O3 a (.lst vs) p = some (.lst ((ds.map ddD).map .d)) := by rw [oa p (by rw [hp3]; simp)]; exact hp3
        have hpm4 : updO O3 a (.lst vs) pm = some (.raw (yL m)) := by rw [oa pm (by rw [hpm3]; simp)]; exact hpm3
        have hq4 : updO O3 a (.lst vs) q = some (.lst (cs.map W.own)) := by rw [oa q (by rw [hq3]; simp)]; exact hq3
        have ck4 : ∀ (i : Nat) (c : Addr), cs[i]? = some c → CellW (updO O3 a (.lst vs)) (n.toNat % hg) (pl + i) c := fun i c hc => (ck i c hc).old oa
        generalize updO O3 a (.lst vs) = O4 at *
        split
        · have hqp : p ≠ q := neO hp2 hq2
          have e1 : n % (hg : Int) = ((n.toNat % hg : Nat) : Int) := by
            obtain ⟨m, rfl⟩ := Int.eq_ofNat_of_zero_le n0
            rfl
          rw [e1]
          have hrw : n.toNat % hg < hg := Nat.mod_lt _ (by omega)
          generalize n.toNat % hg = r at ck ck4 hrw
          refine ⟨.inr (.inl ⟨rfl, _, rfl⟩), by omega, by omega, fun d => ∃ k : Nat, 32 ≤ k ∧ k ≤ 126 ∧ d = .str ⟨#[k]⟩, ?_, ?_⟩
          · intro a ha us hu
            obtain ⟨u, rfl⟩ := List.length_eq_one_iff.1 hu
            refine ⟨rfl, rfl, ?_⟩
            show VE n ((j : Int) + a + 2) ∧ x4 [W.d (.int (n / ((j : Int) + a + 2)))] O4 fun y O3 => O3 = O4 ∧ ∃ d, y = W.d d ∧ ∃ k : Nat, 32 ≤ k ∧ k ≤ 126 ∧ d = .str ⟨#[k]⟩
            exact ⟨⟨by omega, by omega⟩, _, rfl, Int.ediv_nonneg n0 (by omega), fun k k0 k1 => ⟨rfl, _, rfl, k, k0, k1, rfl⟩⟩
          · intro es el ep
            obtain ⟨ks, ek, kb⟩ := qJ es ep
            have kl : ks.length = sz := by rw [ek, List.length_map] at el; exact el
            refine ⟨ks.map fun k => ⟨#[k]⟩, by rw [ek]; show some ((ks.map _).map W.d) = _; rw [List.map_map, List.map_map]; rfl, by decide +kernel, by rw [qK, List.length_map]; omega, .inl ⟨rfl, by simp [zj, hp4]⟩, by omega, ⟨by omega, by omega⟩, _, rfl, by omega, fun ik i0 i1 => ?_⟩
            rw [show Txt.join (Str.ofString "") (ks.map fun k => (⟨#[k]⟩ : Str)) = ⟨ks.toArray⟩ from Yg ks]
            have okd : okDd wd hg (Dd.wr r pl ⟨ks.toArray⟩ ik) := ⟨hrw, by show pl + ks.toArray.size ≤ wd; rw [List.size_toArray]; omega, fun k hk => kb k (by simpa using hk)⟩
            refine ⟨_, ⟨_, rfl, rfl⟩, by show 5 ≤ 1000; omega, updO O4 p (.lst (((ds ++ [Dd.wr r pl ⟨ks.toArray⟩ ik]).map ddD).map .d)), ?_, ?_⟩
            · simp only [xi, hp4]
              rw [if_pos (by rw [List.length_map, List.length_map]; omega)]
              rw [List.map_append, List.map_append]
              rfl
            have npm : pm ≠ p := Ne.symm (neW hp4 hpm4 (by intro h; cases h))
            have hpm5 : updO O4 p (.lst (((ds ++ [Dd.wr r pl ⟨ks.toArray⟩ ik]).map ddD).map .d)) pm = some (.raw (yL m)) := by rw [zf npm]; exact hpm4
            have hq5 : updO O4 p (.lst (((ds ++ [Dd.wr r pl ⟨ks.toArray⟩ ik]).map ddD).map .d)) q = some (.lst (cs.map W.own)) := by rw [zf (Ne.symm hqp)]; exact hq4
            have ck5 : ∀ (i : Nat) (c : Addr), cs[i]? = some c → CellW (updO O4 p (.lst (((ds ++ [Dd.wr r pl ⟨ks.toArray⟩ ik]).map ddD).map .d))) r (pl + i) c := fun i c hc => by
              have h1 := ck4 i c hc
              unfold CellW at *
              rw [zf (neW h1 hp4 (by intro h; cases h))]
              exact h1
            have oO5 : Old O (updO O4 p (.lst (((ds ++ [Dd.wr r pl ⟨ks.toArray⟩ ik]).map ddD).map .d))) := oO.upd hp
            have hp5 : updO O4 p (.lst (((ds ++ [Dd.wr r pl ⟨ks.toArray⟩ ik]).map ddD).map .d)) p = some (.lst (((ds ++ [Dd.wr r pl ⟨ks.toArray⟩ ik]).map ddD).map .d)) := zc
            generalize updO O4 p (.lst (((ds ++ [Dd.wr r pl ⟨ks.toArray⟩ ik]).map ddD).map .d)) = O5 at *
            refine ⟨⟨_, hpm5⟩, cs.map W.own, by simp only [zj, hq5], by simp; omega, fun i vs O' => Old O5 O' ∧ ∃ ts : List Addr, vs = ts.map W.own ∧ ts.length = i ∧ ∀ t ∈ ts, PairW O' r (.own t), ⟨Old.refl, [], rfl, rfl, fun t ht => (nomatch ht)⟩, fun i vs O' hJ => by simp only [zj, hJ.1 q (by rw [hq5]; simp), hq5], ?_, ?_⟩
            · rintro i w _ O' hw ⟨ho, ts, rfl, tl, tp⟩ us hu
              obtain ⟨u, rfl⟩ := List.length_eq_one_iff.1 hu
              rw [List.getElem?_map] at hw
              cases hci : cs[i]? with
              | none => rw [hci] at hw; cases hw
              | some b =>
                rw [hci] at hw
                cases hw
                have il : i < cs.length := (List.getElem?_eq_some_iff.1 hci).1
                refine ⟨rfl, rfl, _, rfl, by show 2 ≤ 1000; omega, fun t ht => ⟨ho.upd (ho.nn ht), ts ++ [t], by simp, by simp [tl], fun t' ht' => ?_⟩⟩
                have oa' : Old O' (updO O' t (.raw (qE [.ref b, .bl true]))) := Old.refl.upd ht
                rcases List.mem_append.1 ht' with ht' | ht'
                · exact (tp t' ht').old oa'
                · cases List.mem_singleton.1 ht'
                  exact ⟨t, b, pl + i, rfl, zc, ((ck5 i b hci).old ho).old oa', by omega⟩
            · rintro _ O6 ⟨ho6, ts, rfl, tl, tp⟩ a2 ha2
              have oa2 : Old O6 (updO O6 a2 (.lst (ts.map W.own))) := Old.refl.upd ha2
              have o52 := ho6.trans oa2
              refine ⟨r, by omega, by simp; simp at tl; omega, fun w hw => ?_, ?_⟩
              · obtain ⟨t, ht, rfl⟩ := List.mem_map.1 hw
                exact (tp t ht).old oa2
              intro p6 hp6
              have o56 : Old O5 (updO (updO O6 a2 (.lst (ts.map W.own))) p6 (.raw (uu (ts.map W.own).length))) := o52.upd (o52.nn hp6)
              have hpm6 : updO (updO O6 a2 (.lst (ts.map W.own))) p6 (.raw (uu (ts.map W.own).length)) pm = some (.raw (yL m)) := by rw [o56 pm (by rw [hpm5]; simp)]; exact hpm5
              have hp7 : updO (updO O6 a2 (.lst (ts.map W.own))) p6 (.raw (uu (ts.map W.own).length)) p = some (.lst (((ds ++ [Dd.wr r pl ⟨ks.toArray⟩ ik]).map ddD).map .d)) := by rw [o56 p (by rw [hp5]; simp)]; exact hp5
              have npm6 : ¬ pm = p6 := fun e => by rw [← e, o52 pm (by rw [hpm5]; simp), hpm5] at hp6; cases hp6
              have tl2 : (ts.map W.own).length = sz := by rw [List.length_map, tl, List.length_map]; exact cl
              refine ⟨m, hpm6, (ts.map W.own).length, rfl, npm6, by rw [tl2]; omega, hR2 _ _ ⟨_, _, _, _, _, _, _, _, m + (ts.map W.own).length, ds ++ [Dd.wr r pl ⟨ks.toArray⟩ ik], (oO5.trans o56).upd hpm0, by rw [zf (Ne.symm npm)]; exact hp7, zc, by rw [tl2]; omega, by simp; omega, fun x hx => ?_, rfl⟩⟩
              rcases List.mem_append.1 hx with hx | hx
              · exact dk x hx
              · cases List.mem_singleton.1 hx
                exact okd
        · exact hR2 _ _ ⟨_, _, _, _, _, _, _, _, m, ds, oO, hp4, hpm4, by omega, by omega, dk, rfl⟩
    · rintro _ O2 ⟨v4, v5, v6, v7, v9, v10, v11, v12, m, ds, ho2, hp2, hpm2, ml, dl, dk, rfl⟩
      exact hR1 _ _ ⟨_, _, _, _, _, _, _, _, _, ds, ho2, hp2, by omega, dk, rfl⟩
  rintro _ O2 ⟨v4, v5, v6, v7, v8, v9, v10, v11, v12, ds, ho2, hp2, dl, dk, rfl⟩
  walk_at "wd"
  exact .inr ⟨_, _, rfl, hp2, h ds _ dl dk (ho2.del hp)⟩
end
theorem U0 {t : Str} (h : ∀ k ∈ t.cps.toList, 32 ≤ k ∧ k ≤ 126) : PyData.strOk t = true := by
  unfold PyData.strOk
  simp
  intro i hi
  have := h t.cps[i] (by simp)
  omega
theorem dd7 {w h : Nat} {d : Dd} (hd : okDd w h d) : PyData.canLay0 (ddD d) = true ∧ PyData.depth (ddD d) ≤ 3 ∧ PyData.eqv (ddD d) (ddD d) = true := by
  have s1 : PyData.strOk (Str.ofString "cut") = true := by decide +kernel
  have s2 : PyData.strOk (Str.ofString "put") = true := by decide +kernel
  have s3 : PyData.strOk (Str.ofString "write") = true := by decide +kernel
  cases d with
  | cut r m => simp [ddD, PyData.canLay0, PyData.canLayAll0, PyData.depth, PyData.depthAll, PyData.eqv, PyData.eqvAll, s1]
  | put r m => simp [ddD, PyData.canLay0, PyData.canLayAll0, PyData.depth, PyData.depthAll, PyData.eqv, PyData.eqvAll, s2]
  | wr r c t ink =>
    have s4 : PyData.strOk t = true := U0 hd.2.2
    simp [ddD, PyData.canLay0, PyData.canLayAll0, PyData.depth, PyData.depthAll, PyData.eqv, PyData.eqvAll, s3, s4]
theorem U1 {w h : Nat} {pc : Pic6} {ds : List Dd} (ok : OkP w h pc) (dk : ∀ d ∈ ds, okDd w h d) : PyData.canLay0 (.tuple [rowsC pc, .list (ds.map ddD)]) = true ∧ PyData.depth (.tuple [rowsC pc, .list (ds.map ddD)]) ≤ 6 ∧ PyData.eqv (.tuple [rowsC pc, .list (ds.map ddD)]) (.tuple [rowsC pc, .list (ds.map ddD)]) = true := by
  have a := kf (p := pc) fun r hr => (ok.row r hr).2
  have b := ke (n := 3) (ds := ds.map ddD) fun d hd => by obtain ⟨c, hc, rfl⟩ := List.mem_map.1 hd; exact dd7 (dk c hc)
  exact Qr (n := 5) fun d hd => by
    rcases List.mem_cons.1 hd with rfl | hd
    · exact a
    · cases List.mem_singleton.1 hd
      exact ⟨b.1, by have := b.2.1; omega, b.2.2⟩
section
variable {P : Program} {w : World} {K : PySem.W.Frag} {mg : Str → Option Value} {base : Heap} {f : Addr} {fd : FuncData}
theorem U2 (F : Fun K "law" "law" km f fd) (T : Txt K mg) (Jc : Cal P w K mg base 2 "_law_mixed" [] (zg K ua)) (Jd : Cal P w K mg base 3 "_law_picture" [] (zg K sPic7)) (Ja : Cal P w K mg base 3 "_law_drawn" [] (zg K uv)) (Q7 : Cal P w K mg base 1 "_law_copied" [] (zg K xJ)) (Q9 : Cal P w K mg base 2 "_law_deed" [] (zg K qG)) (Jl : Cal P w K mg base 4 "way_done" [] (zg K ki)) : FnOk P w K mg base CX0 5 f fd ["_law_script"] (zg K sLaw5) := by
  have nd := Zw.nd
  apply F.okV Zw (by rintro _ _ _ ⟨a, rfl, _⟩; rfl) (fun cdv A outer sh H E hr => (zd (zk (i := 1) nd rfl (Or.inl rfl) (ze zu za (ze zq (zo Jc (hr.mono (by decide)) rfl (QA.pa (qc (pv 0) (qc za qn)))) za)))
      (zd (zk (i := 2) nd rfl (Or.inl rfl) (ze zu za (ze zq (ze zC (zo Jc (hr.mono (by decide)) rfl (QA.pa (qc (pv 0) (qc za qn)))) za) za)))
      (zd (yh (zJ yO (ze zq (ze zC (zo Jc (hr.mono (by decide)) rfl (QA.pa (qc (pv 0) (qc za qn)))) za) za) za (zN _)) (zd (zk (i := 1) nd rfl (Or.inl rfl) (ze zu za (ze zq (ze zC (zo Jc (hr.mono (by decide)) rfl (QA.pa (qc (pv 0) (qc za qn)))) za) za)))
      (zi (zk (i := 2) nd rfl (Or.inl rfl) za))) zW)
      (zd (zk (i := 3) nd rfl (Or.inl rfl) (zo Jd (hr.mono (by decide)) rfl (QA.pa (qc (pv 0) (qc za (qc (pv 1) (qc (pv 2) qn)))))))
      (zd (zk (i := 4) nd rfl (Or.inl rfl) (zo Ja (hr.mono (by decide)) rfl (QA.pa (qc (pv 0) (qc (pv 1) (qc (pv 2) qn))))))
      (zd (zk (i := 5) nd rfl (Or.inl rfl) (zo Q7 (hr.mono (by decide)) rfl (QA.pa (qc (pv 3) qn))))
      (zd (yo PassesOwn.never rfl (yq (K := K) rfl (pv 4)) (zr (i := 6) nd rfl (Or.inl rfl))
      (zi (zk (i := 5) nd rfl (Or.inl rfl) (zo Q9 (hr.mono (by decide)) rfl (QA.pa (qc (pv 5) (qc (pv 6) qn)))))))
      (zd (zk (i := 7) nd rfl (Or.inl rfl) (Vi (qc (zo Q7 (hr.mono (by decide)) rfl (QA.pa (qc (pv 3) qn))) (qc (yE (jN (K := K) rfl) (by rfl) T.n_list rfl (QA.pa (qc (pv 4) qn))) qn))))
      (zd (yo PassesOwn.never rfl (zI rfl T.n_range (QA.pa (qc za qn))) (zr (i := 8) nd rfl (Or.inl rfl))
      (zd (zk (i := 9) nd rfl (Or.inl rfl) (zo Jl (hr.mono (by decide)) rfl (QA.pa (qc (zp (zv (K := K) rfl) (pv 7) za (fun _ _ => rfl)) (qc (zp (zv (K := K) rfl) (pv 7) za (fun _ _ => rfl)) qn)))))
      (zd (yh (PW.pt (Yx (kC (kB (zF (Zn (K := K) rfl) (by rfl) T.n_isinstance (by rfl) (QA.pa (qc (pv 9) (qc (jd (v := .ty "list") (u := .type "list") rfl T.n_list rfl rfl) qn)))))) (Yx (zJ (qA (K := K) rfl hr.units) (pv 9) (pv 5) (zN _)) (Vr (zJ (qA (K := K) rfl hr.units) (pv 7) (z9 (qc (pv 3) (qc (pv 4) qn))) (zN _)))))) (zi (zt jB)) zW)
      (zd (yo PassesOwn.never rfl (yq (K := K) rfl (pv 9)) (zr (i := 10) nd rfl (Or.inl rfl))
      (zd (yh (kC (kB (zF (Zn (K := K) rfl) (by rfl) T.n_isinstance (by rfl) (QA.pa (qc (pv 10) (qc (jd (v := .ty "list") (u := .type "list") rfl T.n_list rfl rfl) qn)))))) (zi (zt jB)) zW)
      (zi (yv (jq (K := K) rfl PySem.F.plainAttrs_list PySem.F.slot_list_clear PySem.F.type_list_clear qj (pv 10))))))
      (zi (yv (jq (K := K) rfl PySem.F.plainAttrs_list PySem.F.slot_list_clear PySem.F.type_list_clear qj (pv 9))))))))
      (zi (zt (Vu (je (qz (K := K) rfl hr.units) (zo Jl (hr.mono (by decide)) rfl (QA.pa (qc (zp (zv (K := K) rfl) (pv 7) za (fun _ _ => rfl)) (qc (yw qn) qn)))) (pv 3) (zN _)) (Vt (je (qz (K := K) rfl hr.units) (pv 7) (z9 (qc (pv 3) (qc (pv 4) qn))) (zN _))))))))))))))))
  · walk_at "ref"
  rintro _ O R ⟨ns, rfl, _, _, h⟩
  refine uX (fun ρ' O' => ∃ wd hg : Nat, 1 ≤ wd ∧ wd ≤ 24 ∧ 1 ≤ hg ∧ hg ≤ 12 ∧ ρ' = [some (.d (.list (ns.map .int))), some (.d (.int wd)), some (.d (.int hg)), none, none, none, none, none, none, none, none] ∧ O = O') (fun R1 hR1 => ?_) ?_
  · walk_at "wd"
    refine ⟨ns, 0, rfl, by omega, fun a a0 a1 => ⟨by decide, ns, 0, rfl, by omega, fun b b0 b1 => ⟨⟨by omega, by omega⟩, ns, 0, rfl, by omega, fun c c0 c1 => ⟨⟨by omega, by omega⟩, ?_⟩⟩⟩⟩
    split
    · refine ⟨ns, 0, rfl, by omega, fun d d0 d1 => ⟨⟨by omega, by omega⟩, hR1 _ _ ⟨(1 + d / 432 % 24).toNat, 12, by omega, by omega, by omega, by omega, ?_, rfl⟩⟩⟩
      rw [show (((1 + d / 432 % 24).toNat : Nat) : Int) = 1 + d / 432 % 24 by omega]
      rfl
    · refine hR1 _ _ ⟨(1 + a % 8).toNat, (1 + b / 8 % 6).toNat, by omega, by omega, by omega, by omega, ?_, rfl⟩
      rw [show (((1 + a % 8).toNat : Nat) : Int) = 1 + a % 8 by omega, show (((1 + b / 8 % 6).toNat : Nat) : Int) = 1 + b / 8 % 6 by omega]
  rintro _ _ ⟨wd, hg, w0, w1, h0, h1, rfl, rfl⟩
  refine uX (fun ρ' O' => ∃ pc : Pic6, ∃ ds : List Dd, ∃ q bs, OkP wd hg pc ∧ ds.length ≤ 100 ∧ (∀ d ∈ ds, okDd wd hg d) ∧ zn O' q bs pc ∧ ρ' = [some (.d (.list (ns.map .int))), some (.d (.int wd)), some (.d (.int hg)), some (.d (rowsC pc)), some (.d (.list (ds.map ddD))), some (.own q), none, none, none, none, none]) (fun R1 hR1 => ?_) ?_
  · walk_at "wd"
    exact ⟨ns, 1, wd, hg, rfl, by omega, w0, w1, h0, h1, fun pc O' ok ho => ⟨ns, wd, hg, rfl, w0, w1, h0, h1, fun ds O2 dl dk ho2 => ⟨_, pc, rfl, .inl rfl, by rw [ok.len]; exact h1, fun r hr => by rw [(ok.row r hr).1]; exact w1, fun q bs O3 hq ho3 _ _ _ _ => hR1 _ _ ⟨pc, ds, q, bs, ok, dl, dk, hq, rfl⟩⟩⟩⟩
  rintro _ O1 ⟨pc, ds, q, bs, ok, dl, dk, hq, rfl⟩
  refine vN (fun ρ' O' => ∃ q bs v6, zn O' q bs (doW wd pc ds) ∧ ρ' = [some (.d (.list (ns.map .int))), some (.d (.int wd)), some (.d (.int hg)), some (.d (rowsC pc)), some (.d (.list (ds.map ddD))), some (.own q), v6, none, none, none, none]) (fun R1 hR1 => ?_) ?_
  · walk_at "wd"
    refine ⟨_, rfl, ?_⟩
    refine z7.by (fun i ρ O' => ∃ q bs v6, zn O' q bs (doW wd pc (ds.take i)) ∧ ρ = [some (.d (.list (ns.map .int))), some (.d (.int wd)), some (.d (.int hg)), some (.d (rowsC pc)), some (.d (.list (ds.map ddD))), some (.own q), v6, none, none, none, none]) ⟨q, bs, _, hq, rfl⟩ (fun i ρ O' h => rfl) ?_ ?_
    · rintro i w _ O2 e ⟨q, bs, v6, hq, rfl⟩ R2 hR2
      obtain ⟨d, ed, rfl⟩ : ∃ d, ds[i]? = some d ∧ w = .d (ddD d) := by
        rw [List.getElem?_map, List.getElem?_map] at e
        cases h : ds[i]? with
        | none => rw [h] at e; cases e
        | some d => rw [h] at e; cases e; exact ⟨d, rfl, rfl⟩
      have es : doW wd pc (ds.take (i + 1)) = doD wd (doW wd pc (ds.take i)) d := by
        unfold doW
        rw [List.take_add_one, ed, List.foldl_append]
        rfl
      walk_at "wd"
      exact ⟨_, _, wd, hg, d, rfl, .inr ⟨q, bs, rfl, hq⟩, ok.way (fun x hx => dk x (List.mem_of_mem_take hx)), w1, h0, h1, dk d (List.mem_of_getElem? ed), fun q2 cs O3 hq2 ho3 => hR2 _ _ ⟨q2, cs, _, by rw [es]; exact hq2, rfl⟩⟩
    · rintro _ O2 ⟨q, bs, v6, hq, rfl⟩
      rw [List.length_map, List.length_map, List.take_length] at hq
      exact hR1 _ _ ⟨q, bs, v6, hq, rfl⟩
  rintro _ O2 ⟨q, bs, v6, hq, rfl⟩
  refine vN (fun ρ' O' => zn O' q bs (doW wd pc ds) ∧ ρ' = [some (.d (.list (ns.map .int))), some (.d (.int wd)), some (.d (.int hg)), some (.d (rowsC pc)), some (.d (.list (ds.map ddD))), some (.own q), v6, some (.d (.tuple [rowsC pc, .list (ds.map ddD)])), none, none, none]) (fun R1 hR1 => ?_) ?_
  · walk_at "wd"
    refine ⟨_, pc, rfl, .inl rfl, by rw [ok.len]; exact h1, fun r hr => by rw [(ok.row r hr).1]; exact w1, fun a cs O' ha ho nd' na hn hf => ⟨ds.map ddD, by simp only [seqD, z0, zj, Option.bind_some, zQ], a, rfl, cs.map W.own, ha.1, pc.map rowC, Rws.items ha.2, List.pairwise_map.2 (nd'.imp fun h e => h (W.own.inj e)), fun m => by obtain ⟨b, hb, e⟩ := List.mem_map.1 m; cases e; exact na hb, fun O3 h3 => hR1 _ _ ⟨hq.old ?_, rfl⟩⟩⟩
    intro b hb
    rw [h3 b (fun e => hb (by rw [e]; exact hn)) (fun m => by obtain ⟨c, hc, e⟩ := List.mem_map.1 m; cases e; exact hb (hf _ hc)), ho b hb]
  rintro _ O3 ⟨hq, rfl⟩
  refine vN (fun ρ' O' => ∃ v8 v9 v10, ρ' = [some (.d (.list (ns.map .int))), some (.d (.int wd)), some (.d (.int hg)), some (.d (rowsC pc)), some (.d (.list (ds.map ddD))), some (.own q), v6, some (.d (.tuple [rowsC pc, .list (ds.map ddD)])), v8, v9, v10]) (fun R1 hR1 => ?_) ?_
  · walk_at "wd"
    refine z7.rng (n := 2) (f := fun i => (i : Int)) (fun i ρ O' => ∃ v8 v9 v10, zn O' q bs (doW wd pc ds) ∧ ρ = [some (.d (.list (ns.map .int))), some (.d (.int wd)), some (.d (.int hg)), some (.d (rowsC pc)), some (.d (.list (ds.map ddD))), some (.own q), v6, some (.d (.tuple [rowsC pc, .list (ds.map ddD)])), v8, v9, v10]) ⟨_, _, _, hq, rfl⟩ ?_ ?_
    · rintro i _ O4 hi ⟨v8, v9, v10, hq, rfl⟩ R2 hR2
      refine vN (fun ρ' O' => ∃ a, ∃ cs : List Addr, zn O' a cs (doW wd pc ds) ∧ zn O' q bs (doW wd pc ds) ∧ O4 a = none ∧ (∀ c ∈ cs, O4 c = none) ∧ Old O4 O' ∧ ρ' = [some (.d (.list (ns.map .int))), some (.d (.int wd)), some (.d (.int hg)), some (.d (rowsC pc)), some (.d (.list (ds.map ddD))), some (.own q), v6, some (.d (.tuple [rowsC pc, .list (ds.map ddD)])), some (.d (.int i)), some (.own a), v10]) (fun R3 hR3 => ?_) ?_
      · walk_at "wd"
        exact ⟨_, rfl, _, rfl, _, pc, wd, hg, ds, rfl, .inl rfl, ok, w1, h0, h1, dl, dk, fun a cs O' ha ho hn hf => hR3 _ _ ⟨a, cs, ha, hq.old ho, hn, hf, ho, rfl⟩⟩
      rintro _ O5 ⟨a, cs, ha, hq5, hn, hf, ho5, rfl⟩
      have okw : OkP wd hg (doW wd pc ds) := ok.way dk
      refine vN (fun ρ' O' => O5 = O' ∧ ρ' = [some (.d (.list (ns.map .int))), some (.d (.int wd)), some (.d (.int hg)), some (.d (rowsC pc)), some (.d (.list (ds.map ddD))), some (.own q), v6, some (.d (.tuple [rowsC pc, .list (ds.map ddD)])), some (.d (.int i)), some (.own a), v10]) (fun R3 hR3 => ?_) ?_
      · walk_at "wd"
        obtain ⟨t1, t2, t3⟩ := U1 (w := wd) (h := hg) (pc := pc) ok dk
        have sw := uY (p := doW wd pc ds) (fun r hr => (okw.row r hr).2)
        refine ⟨⟨_, ha.1⟩, _, ha.deep, _, hq5.deep, sw, sw, ?_⟩
        rw [if_pos (kf (p := doW wd pc ds) (fun r hr => (okw.row r hr).2)).2.2]
        refine ⟨_, rfl, _, rfl, ug ⟨t1, t2, t3⟩ (by decide), ug ⟨t1, t2, t3⟩ (by decide), ?_⟩
        rw [if_pos t3]
        exact hR3 _ _ ⟨rfl, rfl⟩
      rintro _ _ ⟨rfl, rfl⟩
      walk_at "wd"
      have hcs : ∀ c ∈ cs, c ≠ a ∧ ∃ us, O5 c = some (.lst us) := fun c hc => by
        obtain ⟨k, hk⟩ := List.mem_iff_getElem?.1 hc
        obtain ⟨r, _, hr⟩ := Paired.getP ha.2 hk
        exact ⟨hr.ne ha.1 (fun e => by rw [e] at hc; cases hc), _, hr⟩
      refine ⟨_, ha.seq, ?_⟩
      refine z7.by (fun k ρ O' => ∃ v10, O' a = some (.lst (cs.map W.own)) ∧ (∀ c ∈ cs, ∃ us, O' c = some (.lst us)) ∧ (∀ b, O4 b ≠ none → O' b = O5 b) ∧ ρ = [some (.d (.list (ns.map .int))), some (.d (.int wd)), some (.d (.int hg)), some (.d (rowsC pc)), some (.d (.list (ds.map ddD))), some (.own q), v6, some (.d (.tuple [rowsC pc, .list (ds.map ddD)])), some (.d (.int i)), some (.own a), v10]) ⟨_, ha.1, fun c hc => (hcs c hc).2, fun _ _ => rfl, rfl⟩ (fun k ρ O' ⟨v10, g1, _⟩ => by simp only [zj, g1]) ?_ ?_
      · rintro k w _ O6 e ⟨v10, ha6, hc6, ho6, rfl⟩ R3 hR3
        rw [List.getElem?_map] at e
        cases hci : cs[k]? with
        | none => rw [hci] at e; cases e
        | some c =>
          rw [hci] at e
          cases e
          have mc := List.mem_of_getElem? hci
          obtain ⟨us, hus⟩ := hc6 c mc
          have fin : R3 ([some (.d (.list (ns.map .int))), some (.d (.int wd)), some (.d (.int hg)), some (.d (rowsC pc)), some (.d (.list (ds.map ddD))), some (.own q), v6, some (.d (.tuple [rowsC pc, .list (ds.map ddD)])), some (.d (.int i)), some (.own a), some (.own c)]) (updO O6 c (.lst [])) := hR3 _ _ ⟨_, by rw [zf (Ne.symm (hcs c mc).1)]; exact ha6, fun c' hc' => by
            by_cases ec : c' = c
            · rw [ec]; exact ⟨_, zc⟩
            · rw [zf ec]; exact hc6 c' hc', fun b hb => by rw [zf (fun e => hb (by rw [e]; exact hf c mc))]; exact ho6 b hb, rfl⟩
          have ty : tyW "list" O6 (.own c) := .inl ⟨rfl, by simp [zj, hus]⟩
          walk_at "wd"
          first
            | exact ⟨⟨_, hus⟩, ty, ⟨_, hus⟩, fin⟩
            | exact ⟨⟨_, hus⟩, ty, _, hus, fin⟩
      · rintro _ O6 ⟨v10, ha6, hc6, ho6, rfl⟩
        have ty : tyW "list" O6 (.own a) := .inl ⟨rfl, by simp [zj, ha6]⟩
        have fin : R2 ([some (.d (.list (ns.map .int))), some (.d (.int wd)), some (.d (.int hg)), some (.d (rowsC pc)), some (.d (.list (ds.map ddD))), some (.own q), v6, some (.d (.tuple [rowsC pc, .list (ds.map ddD)])), some (.d (.int i)), some (.own a), v10]) (updO O6 a (.lst [])) := hR2 _ _ ⟨_, _, _, hq.old (fun b hb => by rw [zf (fun e => hb (by rw [e]; exact hn)), ho6 b hb, ho5 b hb]), rfl⟩
        walk_at "wd"
        first
          | exact ⟨ty, ⟨_, ha6⟩, fin⟩
          | exact ⟨ty, _, ha6, fin⟩
    · rintro _ O4 ⟨v8, v9, v10, hq, rfl⟩
      exact hR1 _ _ ⟨_, _, _, rfl⟩
  rintro _ O4 ⟨v8, v9, v10, rfl⟩
  walk_at "wd"
  obtain ⟨t1, t2, t3⟩ := U1 (w := wd) (h := hg) (pc := pc) ok dk
  refine ⟨_, rfl, _, pc, wd, hg, [], rfl, .inl rfl, ok, w1, h0, h1, by simp, fun d hd => (nomatch hd), fun a cs O' ha ho hn hf => ⟨_, ha.deep, _, rfl, uY (fun r hr => (ok.row r hr).2), uY (fun r hr => (ok.row r hr).2), ?_⟩⟩
  rw [if_pos (show PyData.eqv (rowsC (doW wd pc [])) (rowsC pc) = true from (kf (p := pc) (fun r hr => (ok.row r hr).2)).2.2)]
  refine ⟨_, rfl, _, rfl, ug ⟨t1, t2, t3⟩ (by decide), ug ⟨t1, t2, t3⟩ (by decide), ?_⟩
  rw [t3]
  exact .inl (h _)
end
theorem fk {K : PySem.W.Frag} {h : Heap} {mg : Str → Option Value} {x : Str} {st : Stmt} {f : Addr} {oc kV doc pm cd ct : Value} {od an : Option Addr} {sl : Array (Option Value)} (X : K.In h) (G : h.Ns mainGlobals mg)
    (a : PySem.W.nsIn K mainGlobals x = some (some (.ref f))) (l : K.lookup f = some ⟨oc, od, .func (PySem.W.fnOf x x (defArgs st) (defBody st) (defScope st) .none kV doc pm an cd ct), sl⟩) (c : PySem.W.codeIn K cd x = true) (k : PySem.W.keepIn K (.ref f) = true) :
    ∃ f fd, Fun K x x st f fd ∧ mg x = some (.ref f) := ⟨f, _, VP (st := st) l c k, PySem.W.mg_of X G a⟩
theorem fkD {K : PySem.W.Frag} {h : Heap} {mg : Str → Option Value} {x : Str} {st : Stmt} {f D : Addr} {oc kV doc pm cd ct : Value} {od an : Option Addr} {sl : Array (Option Value)} {oD : Obj} {ds : List Value} {n : Nat} (X : K.In h) (G : h.Ns mainGlobals mg)
    (a : PySem.W.nsIn K mainGlobals x = some (some (.ref f))) (l : K.lookup f = some ⟨oc, od, .func (PySem.W.fnOf x x (defArgs st) (defBody st) (defScope st) (.ref D) kV doc pm an cd ct), sl⟩) (c : PySem.W.codeIn K cd x = true) (k : PySem.W.keepIn K (.ref f) = true)
    (t : K.lookup D = some oD) (e : oD.data = .seq ds.toArray n) : ∃ f fd, FunD K x x st ds f fd ∧ mg x = some (.ref f) := ⟨f, _, ⟨⟨oc, od, kV, doc, pm, an, cd, ct, sl, D, oD, n, rfl, l, c, t, e⟩, k⟩, PySem.W.mg_of X G a⟩
theorem qM {K : PySem.W.Frag} {f : Addr} {fd : FuncData} {d : Value} (F : FunD K "blank_row" "blank_row" yp [d] f fd) : Binds K fd ["wide", "ink"] [] :=
  F.binds fun T kV doc pm an cdv ct us hl => match us, hl with | [_, _], _ => ⟨_, rfl, rfl⟩
theorem uU {K : PySem.W.Frag} {f : Addr} {fd : FuncData} {d : Value} (F : FunD K "blank_row" "blank_row" yp [d] f fd) : Binds K fd ["wide", "ink"] [d] :=
  F.binds fun T kV doc pm an cdv ct us hl => by
    have h2 : us.length = 1 := by simpa using hl
    match us, h2 with
    | [_], _ => exact ⟨_, rfl, rfl⟩
theorem all_mk {P : Program} {w : World} {K : PySem.W.Frag} {mg : Str → Option Value} {fa : Addr} (T : Txt K mg) (hfa : mg "law" = some (.ref fa))
    (JI : ∃ f fd, Fun K "_law_cell_at" "_law_cell_at" yA f fd ∧ mg "_law_cell_at" = some (.ref f))
    (JO : ∃ f fd, Fun K "_law_mixed" "_law_mixed" yY f fd ∧ mg "_law_mixed" = some (.ref f))
    (JN : ∃ f fd, Fun K "_law_ink" "_law_ink" xN f fd ∧ mg "_law_ink" = some (.ref f))
    (JS : ∃ f fd, Fun K "_law_sign" "_law_sign" xm f fd ∧ mg "_law_sign" = some (.ref f))
    (JR : ∃ f fd, Fun K "_law_row" "_law_row" xO f fd ∧ mg "_law_row" = some (.ref f))
    (JP : ∃ f fd, Fun K "_law_picture" "_law_picture" yB f fd ∧ mg "_law_picture" = some (.ref f))
    (JM : ∃ f fd, Fun K "_law_drawn" "_law_drawn" yZ f fd ∧ mg "_law_drawn" = some (.ref f))
    (JJ : ∃ f fd, Fun K "_law_copied" "_law_copied" yM f fd ∧ mg "_law_copied" = some (.ref f))
    (JK : ∃ f fd, Fun K "_law_cut" "_law_cut" xP f fd ∧ mg "_law_cut" = some (.ref f))
    (JQ : ∃ f fd, Fun K "_law_put" "_law_put" xQ f fd ∧ mg "_law_put" = some (.ref f))
    (JL : ∃ f fd, Fun K "_law_deed" "_law_deed" xn f fd ∧ mg "_law_deed" = some (.ref f))
    (JV : ∃ f fd, Fun K "copied" "copied" vP f fd ∧ mg "copied" = some (.ref f))
    (JU : ∃ f fd, Fun K "blank_rows" "blank_rows" yX f fd ∧ mg "blank_rows" = some (.ref f))
    (JY : ∃ f fd, Fun K "with_cut" "with_cut" xK f fd ∧ mg "with_cut" = some (.ref f))
    (JZ : ∃ f fd, Fun K "with_put" "with_put" xL f fd ∧ mg "with_put" = some (.ref f))
    (J1 : ∃ f fd, Fun K "with_writing" "with_writing" yz f fd ∧ mg "with_writing" = some (.ref f))
    (JX : ∃ f fd, Fun K "way_done" "way_done" xM f fd ∧ mg "way_done" = some (.ref f))
    (JW : ∃ f fd, Fun K "law" "law" km f fd ∧ mg "law" = some (.ref f))
    (JT : ∃ t f fd, FunD K "blank_row" "blank_row" yp [.int 0 t] f fd ∧ mg "blank_row" = some (.ref f)) :
    ∃ fd : FuncData, (∀ (s : Shared) (v : Value), BindsTo s fd ⟨[v], []⟩ [("_law_script", v)]) ∧ ∀ base : Heap, K.In base → base.Ns mainGlobals mg → FnOk P w K mg base CX0 5 fa fd ["_law_script"] (zg K sLaw5) := by
  obtain ⟨J2, Jp, QN, Kl⟩ := JI
  obtain ⟨J8, Jv, QT, Kr⟩ := JO
  obtain ⟨J7, Ju, QS, Kq⟩ := JN
  obtain ⟨Kc, Jz, QX, Kv⟩ := JS
  obtain ⟨Kb, Jy, QW, Ku⟩ := JR
  obtain ⟨J9, Jw, QU, Ks⟩ := JP
  obtain ⟨J6, Jt, QR, Kp⟩ := JM
  obtain ⟨J3, Jq, QO, Km⟩ := JJ
  obtain ⟨J4, Jr, QP, Kn⟩ := JK
  obtain ⟨Ka, Jx, QV, Kt⟩ := JQ
  obtain ⟨J5, Js, QQ, Ko⟩ := JL
  obtain ⟨Kf, JC, Q0, Ky⟩ := JV
  obtain ⟨Ke, JB, QZ, Kx⟩ := JU
  obtain ⟨Ki, JF, Q3, KB⟩ := JY
  obtain ⟨Kj, JG, Q4, KC⟩ := JZ
  obtain ⟨Kk, JH, Q5, KD⟩ := J1
  obtain ⟨Kh, JE, Q2, KA⟩ := JX
  obtain ⟨Kg, JD, Q1, Kz⟩ := JW
  obtain ⟨KF, Kd, JA, QY, Kw⟩ := JT
  rw [hfa] at Kz
  cases Kz
  refine ⟨JD, fun s v => ?_, fun base _ _ => ?_⟩
  · obtain ⟨oc, od, kV, doc, pm, an, cdv, ct, osl, rfl, _⟩ := Q1.ex
    exact .of_eq rfl
  have Q6 : Cal P w K mg base 1 "_law_cell_at" [] (zg K vk) := ⟨J2, Jp, _, [], ux QN T, Kl, QN.kp, QN.binds fun _ _ _ _ _ _ us hl => match us, hl with | [_, _], _ => rfl, .nil⟩
  have Jc : Cal P w K mg base 2 "_law_mixed" [] (zg K ua) := ⟨J8, Jv, _, [], qI QT T Q6, Kr, QT.kp, QT.binds fun _ _ _ _ _ _ us hl => match us, hl with | [_, _], _ => rfl, .nil⟩
  have Jb : Cal P w K mg base 1 "_law_ink" [] (zg K uW) := ⟨J7, Ju, _, [], kn QS T, Kq, QS.kp, QS.binds fun _ _ _ _ _ _ us hl => match us, hl with | [_], _ => rfl, .nil⟩
  have Jg : Cal P w K mg base 1 "_law_sign" [] (zg K x4) := ⟨Kc, Jz, _, [], qY QX T, Kv, QX.kp, QX.binds fun _ _ _ _ _ _ us hl => match us, hl with | [_], _ => rfl, .nil⟩
  have Jf : Cal P w K mg base 2 "_law_row" [] (zg K sRow7) := ⟨Kb, Jy, _, [], ko QW T Jb Jg, Ku, QW.kp, QW.binds fun _ _ _ _ _ _ us hl => match us, hl with | [_, _], _ => rfl, .nil⟩
  have Jd : Cal P w K mg base 3 "_law_picture" [] (zg K sPic7) := ⟨J9, Jw, _, [], uy QU T Jc Jf, Ks, QU.kp, QU.binds fun _ _ _ _ _ _ us hl => match us, hl with | [_, _, _, _], _ => rfl, .nil⟩
  have Ja : Cal P w K mg base 3 "_law_drawn" [] (zg K uv) := ⟨J6, Jt, _, [], qL QR T Jc Jb Jg, Kp, QR.kp, QR.binds fun _ _ _ _ _ _ us hl => match us, hl with | [_, _, _], _ => rfl, .nil⟩
  have Q7 : Cal P w K mg base 1 "_law_copied" [] (zg K xJ) := ⟨J3, Jq, _, [], uT QO T, Km, QO.kp, QO.binds fun _ _ _ _ _ _ us hl => match us, hl with | [_], _ => rfl, .nil⟩
  have Q8 : Cal P w K mg base 1 "_law_cut" [] (zg K vp) := ⟨J4, Jr, _, [], kq QP T, Kn, QP.kp, QP.binds fun _ _ _ _ _ _ us hl => match us, hl with | [_, _, _], _ => rfl, .nil⟩
  have Je : Cal P w K mg base 1 "_law_put" [] (zg K vq) := ⟨Ka, Jx, _, [], kt QV T, Kt, QV.kp, QV.binds fun _ _ _ _ _ _ us hl => match us, hl with | [_, _, _], _ => rfl, .nil⟩
  have Q9 : Cal P w K mg base 2 "_law_deed" [] (zg K qG) := ⟨J5, Js, _, [], jc QQ T Q7 Q8 Je, Ko, QQ.kp, QQ.binds fun _ _ _ _ _ _ us hl => match us, hl with | [_, _], _ => rfl, .nil⟩
  have Jk : Cal P w K mg base 1 "copied" [] (zg K xJ) := ⟨Kf, JC, _, [], Zx Q0 T, Ky, Q0.kp, Q0.binds fun _ _ _ _ _ _ us hl => match us, hl with | [_], _ => rfl, .nil⟩
  have Jh : Cal P w K mg base 1 "blank_row" [] (zg K vn) := ⟨Kd, JA, _, [], x9 QY T, Kw, QY.kp, qM QY, .nil⟩
  have Ji : Cal P w K mg base 1 "blank_row" [.int 0] (zg K vn) := ⟨Kd, JA, _, _, x9 QY T, Kw, QY.kp, uU QY, .cons ⟨KF, rfl⟩ .nil⟩
  have Jj : Cal P w K mg base 2 "blank_rows" [] (zg K xI) := ⟨Ke, JB, _, [], uS QZ T Ji, Kx, QZ.kp, QZ.binds fun _ _ _ _ _ _ us hl => match us, hl with | [_, _], _ => rfl, .nil⟩
  have Jm : Cal P w K mg base 3 "with_cut" [] (zg K vp) := ⟨Ki, JF, _, [], qZ Q3 T Jj, KB, Q3.kp, Q3.binds fun _ _ _ _ _ _ us hl => match us, hl with | [_, _, _], _ => rfl, .nil⟩
  have Jn : Cal P w K mg base 3 "with_put" [] (zg K vq) := ⟨Kj, JG, _, [], ja Q4 T Jj, KC, Q4.kp, Q4.binds fun _ _ _ _ _ _ us hl => match us, hl with | [_, _, _], _ => rfl, .nil⟩
  have Jo : Cal P w K mg base 1 "with_writing" [] (zg K Yr) := ⟨Kk, JH, _, [], uj Q5 T, KD, Q5.kp, Q5.binds fun _ _ _ _ _ _ us hl => match us, hl with | [_, _, _, _], _ => rfl, .nil⟩
  have Jl : Cal P w K mg base 4 "way_done" [] (zg K ki) := ⟨Kh, JE, _, [], jb Q2 T Jk Jm Jn Jo, KA, Q2.kp, Q2.binds fun _ _ _ _ _ _ us hl => match us, hl with | [_, _], _ => rfl, .nil⟩
  exact U2 Q1 T Jc Jd Ja Q7 Q9 Jl
theorem txt_mk {K : PySem.W.Frag} {h : Heap} {mg : Str → Option Value}  (X : K.In h) (G : h.Ns mainGlobals mg)
    (n_len : PySem.W.nsIn K mainGlobals "len" = some none)
    (n_range : PySem.W.nsIn K mainGlobals "range" = some none)
    (n_dict : PySem.W.nsIn K mainGlobals "dict" = some none)
    (n_list : PySem.W.nsIn K mainGlobals "list" = some none)
    (n_isinstance : PySem.W.nsIn K mainGlobals "isinstance" = some none)
    (n_enumerate : PySem.W.nsIn K mainGlobals "enumerate" = some none)
    : Txt K mg :=
  ⟨PySem.W.mg_none_of X G n_len, PySem.W.mg_none_of X G n_range, PySem.W.mg_none_of X G n_dict, PySem.W.mg_none_of X G n_list, PySem.W.mg_none_of X G n_isinstance, PySem.W.mg_none_of X G n_enumerate⟩
end K27
noncomputable def PySem.W.Fast.tw12620179082759438804 : Unit := ()
noncomputable def PySem.W.Fast.tw17106898937239290865 : Unit := ()
noncomputable def PySem.W.Fast.tw7848468047858700090 : Unit := ()
noncomputable def PySem.W.Fast.tw12457525186156260043 : Unit := ()
noncomputable def PySem.W.Fast.tw16008418308890325514 : Unit := ()
noncomputable def PySem.W.Fast.tw11414263396510142155 : Unit := ()
noncomputable def PySem.W.Fast.tw5807409416697935139 : Unit := ()
noncomputable def PySem.W.Fast.tw6286566187413914647 : Unit := ()
noncomputable def PySem.W.Fast.tw7974942811273449032 : Unit := ()
noncomputable def PySem.W.Fast.tw14988769718881620458 : Unit := ()
noncomputable def PySem.W.Fast.tw5718517639877052475 : Unit := ()
noncomputable def PySem.W.Fast.tw9435615613465350510 : Unit := ()
noncomputable def PySem.W.Fast.tw11527542930031535562 : Unit := ()
noncomputable def PySem.W.Fast.tw10733798455400176331 : Unit := ()
noncomputable def PySem.W.Fast.tw4232159377997255336 : Unit := ()
noncomputable def PySem.W.Fast.tw16794859385908744243 : Unit := ()
noncomputable def PySem.W.Fast.tw10335205240793146740 : Unit := ()
noncomputable def PySem.W.Fast.tw15072878235159215796 : Unit := ()
noncomputable def PySem.W.Fast.tw3414768157885658086 : Unit := ()
noncomputable def PySem.W.Fast.tw419338953247275585 : Unit := ()
noncomputable def PySem.W.Fast.tw5602277902920480980 : Unit := ()
noncomputable def PySem.W.Fast.tw2886058826738284934 : Unit := ()
noncomputable def PySem.W.Fast.tw3818118871484431823 : Unit := ()
noncomputable def PySem.W.Fast.tw18209196355192644548 : Unit := ()
noncomputable def PySem.W.Fast.tw5331482874572375795 : Unit := ()
noncomputable def PySem.W.Fast.tw2110014983298125476 : Unit := ()
noncomputable def PySem.W.Fast.tw4274374747474052231 : Unit := ()
noncomputable def PySem.W.Fast.tw2541294542477163077 : Unit := ()
noncomputable def PySem.W.Fast.tw7244247471888024 : Unit := ()
noncomputable def PySem.W.Fast.tw6413776804121353208 : Unit := ()
noncomputable def PySem.W.Fast.tw17706253990632008647 : Unit := ()
noncomputable def PySem.W.Fast.tw8239370265493304334 : Unit := ()
noncomputable def PySem.W.Fast.tw7305527376778299650 : Unit := ()
noncomputable def PySem.W.Fast.tw7513726671212064141 : Unit := ()
open PySem PySem.W PyProof.Rows
set_option maxRecDepth 100000 in
set_option maxHeartbeats 0 in
theorem PySem.Challenge.cw_signscreen_k27_ways_done_holds : PySem.Challenge.rw_signscreen_k27_ways_done.Holds := by
  w_on; o_law; k_head; (case hw => w_witness2)
  k_fill
  refine L2.walkW (l := PySem.Challenge.rw_signscreen_k27_ways_done) (n := 63) (k := 5) (x := "_law_script") (s := L2.sLaw5) rfl (by decide) rfl ⟨rfl, by decide, by decide, rfl⟩ (fun w h Y => PySem.W.kIn_of Y) ?F (fun ns O R hl hb hR => ⟨ns, rfl, fun n h => (hb n h).mono (by decide), hl, hR⟩)
  case F =>
    intro w mg fa h KX G hmg
    refine' K27.all_mk ?T hmg ?JI ?JO ?JN ?JS ?JR ?JP ?JM ?JJ ?JK ?JQ ?JL ?JV ?JU ?JY ?JZ ?J1 ?JX ?JW ?JT
    case T =>
      refine' K27.txt_mk KX G ?n_len ?n_range ?n_dict ?n_list ?n_isinstance ?n_enumerate
      (case n_len => k_is)
      (case n_range => k_is)
      (case n_dict => k_is)
      (case n_list => k_is)
      (case n_isinstance => k_is)
      (case n_enumerate => k_is)
    case JT => exact ⟨_, by (refine' K27.fkD KX G ?a ?l ?c ?k ?t ?e; (case a => k_is); (case l => k_is); (case c => k_is); (case k => k_is); (case t => k_is); (case e => rfl))⟩
    all_goals (refine' K27.fk KX G ?a ?l ?c ?k; (case a => k_is); (case l => k_is); (case c => k_is); (case k => k_is))
