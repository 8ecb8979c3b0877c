import PyProof.Rows.All
import Wide.All
import OpenK.AllK
import Wide.FinOn
import Lean
import PyProof.EqAt
import PyProof.EqKinds
import PyProof.TupleCall
import KE.KTryMore
import KE.KDictOf
import PyProof.AttrMissHeap
import PyProof.Seq
import PyProof.Rows.Tup
import KE.KDictSum
import PyProof.Rows.SortWalk
import PyProof.EnumStmt
import PyProof.EnumMake
import PyProof.EnumFor
import PyProof.Rows.Range3
import PyProof.ReprRoads
import PyProof.Rows.MinMaxN
import KE.KMinBuiltin
import PyProof.Rows.CallKwBuiltin
import KE.KTabLook
import KE.KDictList
import PyProof.ListRange
import PyProof.ZipIter
import PyProof.Draws
import PyProof.StrLoop
import PyProof.ListNew
import PyProof.CollectWalk
import KE.LcSums
import KE.KIntText
import PyProof.Rows.StrIndexOr
import PyProof.FString5
import PyProof.StrBlockH
import PyProof.SliceStr2
import PyProof.StrLawsChain
import PyProof.StrLawsTight
import KE.IntTextLaws
import PyProof.Rows.StrSplitAre
import PyProof.Rows.ReprOcc
import PyProof.Rows.StrFin3
import PyProof.StrCalls
import PyProof.DictItems
import KE.KPairComp
import PyProof.MeetsSeq2
import PyProof.Rows.FStr
import PyProof.Rows.StrInSeq3
import PyProof.Rows.StrNews2
import PyProof.FactsAll.zip
import PySem.Challenge.RW_signscreen_k20_questions
set_option compiler.extract_closed false
set_option Elab.async false
set_option linter.all false
set_option maxRecDepth 100000
set_option maxHeartbeats 4000000
namespace L2
open PySem PySem.Spec PyProof.Rows
noncomputable abbrev Key := Sum Int Str
noncomputable def jk:Key → Value → Bool
  | .inl k,v => Value.isInt k v
  | .inr x,v => Value.isStrOf x v
noncomputable def zfH (w:World):Key → Int
  | .inl k => hashInt k
  | .inr x => hashStr w x
theorem xu:∀ {k:Key} {v:Value},jk k v = true → (∃ i t,k = Sum.inl i ∧ v = Value.int i t) ∨ (∃ x t,k = Sum.inr x ∧ v = Value.str x t)
  | .inl i,v,h => by
    obtain ⟨t,e⟩ := Value.isInt_shape (k := i) (v := v) h
    exact .inl ⟨i,t,rfl,e⟩
  | .inr x,v,h => by
    obtain ⟨t,e⟩ := Value.isStrOf_shape (x := x) (v := v) h
    exact .inr ⟨x,t,rfl,e⟩
theorem Q7 (i:Int) (t:Tok):jk (.inl i) (.int i t) = true := by simp [jk,Value.isInt]
theorem Q8 (x:Str) (t:Tok):jk (.inr x) (.str x t) = true := by simp [jk,Value.isStrOf]
theorem zc8 (a b:Int):decide ((Sum.inl a:Key) = Sum.inl b) = (a == b) := by
  by_cases e:a = b
  · subst e; simp
  · have h:¬ (Sum.inl a:Key) = Sum.inl b := fun q => e (Sum.inl.inj q)
    rw [decide_eq_false h]
    exact (beq_eq_false_iff_ne.mpr e).symm
theorem zc9 (a b:Str):decide ((Sum.inr a:Key) = Sum.inr b) = decide (a = b) := by
  by_cases e:a = b
  · subst e; simp
  · have h:¬ (Sum.inr a:Key) = Sum.inr b := fun q => e (Sum.inr.inj q)
    rw [decide_eq_false h,decide_eq_false e]
theorem zda (a:Int) (b:Str):decide ((Sum.inl a:Key) = Sum.inr b) = false := decide_eq_false (fun q => nomatch q)
theorem zdb (a:Str) (b:Int):decide ((Sum.inr a:Key) = Sum.inl b) = false := decide_eq_false (fun q => nomatch q)
noncomputable def yP (prog:Program) (w:World):PySem.KeyKind prog w Key where
  is := jk
  hash := zfH w
  inj := fun v a b ha hb => by
    rcases xu ha with ⟨i,t,rfl,rfl⟩ | ⟨x,t,rfl,rfl⟩
    · rcases xu hb with ⟨j,u,rfl,e⟩ | ⟨y,u,rfl,e⟩
      · injection e with e1 _; rw [e1]
      · exact nomatch e
    · rcases xu hb with ⟨j,u,rfl,e⟩ | ⟨y,u,rfl,e⟩
      · exact nomatch e
      · injection e with e1 _; rw [e1]
  byValue := fun k v h => by
    rcases xu h with ⟨i,t,rfl,rfl⟩ | ⟨x,t,rfl,rfl⟩ <;> rfl
  pyHash := fun hv h => by
    rcases xu hv with ⟨i,t,rfl,rfl⟩ | ⟨x,t,rfl,rfl⟩
    · exact wpAny_pyHash_int h
    · exact wpAny_pyHash_str h
  eqBool := fun hu hv h => by
    rcases xu hu with ⟨i,t,rfl,rfl⟩ | ⟨x,t,rfl,rfl⟩
    · rcases xu hv with ⟨j,u,rfl,rfl⟩ | ⟨y,u,rfl,rfl⟩
      · rw [zc8] at h; exact wpAny_eqBool_int h
      · rw [zda] at h; exact SeqAt.EqAt.int_str i t y u _ _ _ _ h
    · rcases xu hv with ⟨j,u,rfl,rfl⟩ | ⟨y,u,rfl,rfl⟩
      · rw [zdb] at h; exact SeqAt.EqAt.str_int x t j u _ _ _ _ h
      · rw [zc9] at h; exact wpAny_eqBool_str h
  «strs» := fun k x t v h => by
    rcases xu h with ⟨i,u,rfl,e⟩ | ⟨y,u,rfl,e⟩
    · exact nomatch e
    · injection e with e1 _
      subst e1
      cases v <;> rfl
theorem V1 (prog:Program) (w:World) (i:Int) (t:Tok):(yP prog w).is (.inl i) (.int i t) = true := Q7 i t
theorem V2 (prog:Program) (w:World) (x:Str) (t:Tok):(yP prog w).is (.inr x) (.str x t) = true := Q8 x t
end L2
namespace L2
open PySem PySem.Spec PyProof.Rows
inductive V where
  | non | bl (b:Bool) | int (i:Int) | str (x:Str) | byt (b:Array UInt8) | flt (b:UInt64) | ref (a:Addr) | ty (n:String)
  deriving DecidableEq
noncomputable def RelV:V → Value → Prop
  | .non,u => u = Value.none
  | .bl b,u => u = Value.bool b
  | .int i,u => ∃ t,u = Value.int i t
  | .str x,u => ∃ t,u = Value.str x t
  | .byt b,u => ∃ t,u = Value.bytes b t
  | .flt b,u => ∃ t,u = Value.float b t
  | .ref a,u => u = Value.ref a
  | .ty n,u => u = Value.type n
noncomputable abbrev Vals:List V → List Value → Prop := Paired RelV
theorem Vals.length {xs:List V} {us:List Value} (r:Vals xs us):xs.length = us.length := Paired.length r
theorem Vals.get:∀ {xs:List V} {us:List Value} {i:Nat} {x:V},Vals xs us → xs[i]? = some x → ∃ u,us[i]? = some u ∧ RelV x u
  | _,_,_,_,.nil,e => by simp at e
  | _,_,0,_,.cons r _,e => by simp at e; subst e; exact ⟨_,rfl,r⟩
  | _,_,i + 1,x,.cons _ t,e => by
    obtain ⟨u,h1,h2⟩ := Vals.get (i := i) (x := x) t (by simpa using e)
    exact ⟨u,by simpa using h1,h2⟩
theorem Vals.set {x:V} {u:Value} (r:RelV x u):∀ {xs:List V} {us:List Value} (i:Nat),Vals xs us → Vals (xs.set i x) (us.set i u)
  | _,_,_,.nil => .nil
  | _,_,0,.cons _ t => .cons r t
  | _,_,i + 1,.cons q t => .cons q (Vals.set r i t)
theorem Vals.append:∀ {xs ys:List V} {us ws:List Value},Vals xs us → Vals ys ws → Vals (xs ++ ys) (us ++ ws)
  | _,_,_,_,.nil,s => s
  | _,_,_,_,.cons r t,s => .cons r (Vals.append t s)
theorem Vals.take:∀ {xs:List V} {us:List Value} (n:Nat),Vals xs us → Vals (xs.take n) (us.take n)
  | _,_,0,_ => .nil
  | _,_,_ + 1,.nil => .nil
  | _,_,n + 1,.cons r t => .cons r (Vals.take n t)
theorem Vals.drop:∀ {xs:List V} {us:List Value} (n:Nat),Vals xs us → Vals (xs.drop n) (us.drop n)
  | _,_,0,r => r
  | _,_,_ + 1,.nil => .nil
  | _,_,n + 1,.cons _ t => Vals.drop n t
theorem Vals.none_of:∀ {xs:List V} {us:List Value} {i:Nat},Vals xs us → xs[i]? = none → us[i]? = none := fun {xs us i} r e => by
  have h1 := r.length
  have h2:xs.length ≤ i := List.getElem?_eq_none_iff.mp e
  exact List.getElem?_eq_none_iff.mpr (by omega)
noncomputable def va:Option V → Option Value → Prop
  | some v,some u => RelV v u
  | none,none => True
  | _,_ => False
noncomputable def KV {κ:Type}:List (κ × V) → List (κ × Value) → Prop := Paired fun (p:κ × V) (q:κ × Value) => p.1 = q.1 ∧ RelV p.2 q.2
noncomputable def kV:Key → V
  | .inl i => .int i
  | .inr x => .str x
inductive HO where
  | lst (xs:List V)
  | tup (xs:List V)
  | dK (kvs:List (Key × V)) | dT (kvs:List (List Key × V))
  | set (S:Int → Bool) (n:Nat)
  | ins (C dx:Addr) (fs:List (Str × V))
  | own (x:Addr)
  | xd (fs:List (Str × V))
  | met (f x:Addr)
  | rng (lo hi:Int)
  | frz (o:Obj) (u:HO)
  | tbl (ps:Array Value)
  | ext (φ:Heap → Prop)
noncomputable abbrev Hp := Addr → Option HO
noncomputable def upd (H:Hp) (a:Addr) (o:HO):Hp := fun b => if b = a then some o else H b
theorem zn {H:Hp} {a:Addr} {o:HO}:upd H a o a = some o := by unfold upd; rw [if_pos rfl]
theorem zi {H:Hp} {a b:Addr} {o:HO} (h:b ≠ a):upd H a o b = H b := by unfold upd; rw [if_neg h]
theorem Yg {H:Hp} {a:Addr} {o u:HO}:upd (upd H a o) a u = upd H a u := by
  funext b; unfold upd; split <;> rfl
theorem zeM {H:Hp} {a b:Addr} {o u:HO} (h:H a = some o) (h':H b = some u) (d:o ≠ u):a ≠ b := by
  intro e; subst e; rw [h] at h'; exact d (Option.some.inj h')
theorem y8 {H:Hp} {a b:Addr} {o:HO} (h:H a = some o) (h':H b = none):a ≠ b := by
  intro e; subst e; rw [h] at h'; cases h'
section
variable (P:Program) (w:World)
noncomputable def yY (H:Hp) (h:Heap) (a:Addr):HO → Prop
  | .lst xs => xs.length ≤ sizeLine ∧ ∃ (its:List Value) (n:Nat),Vals xs its ∧ h.get? a = some { cls := .type "list",data := .seq its.toArray n }
  | .tup xs => xs.length ≤ sizeLine ∧ ∃ its:List Value,Vals xs its ∧ IsTup h a its.toArray
  | .dK kvs => kvs.length ≤ sizeLine ∧ (a == sysModules) = false ∧ ∃ vs,KV kvs vs ∧ h.DictOf (yP P w) a vs
  | .dT kvs => kvs.length ≤ sizeLine ∧ (a == sysModules) = false ∧ ∃ xs:List (List Key × Addr × Value),
      Paired (fun (p:List Key × V) (q:List Key × Addr × Value) => p.1 = q.1 ∧ H q.2.1 = some (.tup (p.1.map kV)) ∧ RelV p.2 q.2.2) kvs xs ∧
      ∃ o es ep,h.get? a = some o ∧ o.ExactDict ∧ o.data = .dict es ep ∧ es.toList = xs.map (entryOfKey (tupleKind (yP P w))) ∧ (xs.map (·.1)).Nodup
  | .set S n => h.SetOf (intKind P w) a S n
  | .ins C dx fs => H dx = some (.own a) ∧ fs.length ≤ 1000 ∧ dx ≠ a ∧ h.get? a = some (PySem.W.instObj C dx) ∧
      ∃ mA,h.Ns1 dx mA ∧ (∀ f,va (fs.lookup f) (mA f)) ∧ PySem.Within mA (fs.map (·.1))
  | .own _ => ∃ o,h.get? a = some o
  | .xd fs => ∃ mA,h.Ns1 a mA ∧ ∀ f,va (fs.lookup f) (mA f)
  | .rng lo hi => ∃ t u v,h.get? a = some { cls := .type "range",data := .fields #[.int lo t,.int hi u,.int 1 v] }
  | .frz o u => h.get? a = some o ∧ yY H h a u
  | .tbl ps => h.get? a = some { cls := .none,data := .fields ps }
  | .met f x => h.get? a = some (PySem.W.methodObj (.ref f) (.ref x))
  | .ext φ => φ h ∧ (∃ o,h.get? a = some o) ∧ ∀ h1 h2:Heap,φ h1 → (∀ o,h1.get? a = some o → h2.get? a = some o) → φ h2
noncomputable def HOk (H:Hp) (h:Heap):Prop := ∀ a o,H a = some o → yY P w H h a o
end
section
variable {P:Program} {w:World} {H H':Hp} {h h':Heap} {a:Addr} {o:HO}
theorem yY.lt (x:yY P w H h a o):a < h.objs.size := by
  cases o with
  | lst xs => obtain ⟨_,_,_,_,e⟩ := x; exact Heap.lt_size e
  | tup xs => obtain ⟨_,_,_,p⟩ := x; exact p.lt
  | dK kvs => obtain ⟨_,_,_,_,o,_,_,e,_⟩ := x; exact Heap.lt_size e
  | dT kvs => obtain ⟨_,_,_,_,o,_,_,e,_⟩ := x; exact Heap.lt_size e
  | set S n => obtain ⟨o,_,_,_,e,_⟩ := x; exact Heap.lt_size e
  | ins C dx fs => obtain ⟨_,_,_,e,_⟩ := x; exact Heap.lt_size e
  | own y => obtain ⟨_,e⟩ := x; exact Heap.lt_size e
  | xd fs => obtain ⟨_,⟨_,_,_,e,_⟩,_⟩ := x; exact Heap.lt_size e
  | rng lo hi => obtain ⟨_,_,_,e⟩ := x; exact Heap.lt_size e
  | frz ob u => obtain ⟨e,_⟩ := x; exact Heap.lt_size e
  | tbl ps => exact Heap.lt_size (show h.get? a = some _ from x)
  | met f y => exact Heap.lt_size (show h.get? a = some _ from x)
  | ext φ => obtain ⟨_,⟨_,e⟩,_⟩ := x; exact Heap.lt_size e
theorem Paired.mapP {α β:Type} {F G:α → β → Prop}:∀ {l₁:List α} {l₂:List β},Paired F l₁ l₂ → (∀ a b,F a b → G a b) → Paired G l₁ l₂
  | _,_,.nil,_ => .nil
  | _,_,.cons r t,f => .cons (f _ _ r) (Paired.mapP t f)
theorem Paired.imp' {α β:Type} {F G:α → β → Prop} (f:∀ a b,F a b → G a b) {l₁:List α} {l₂:List β} (r:Paired F l₁ l₂):Paired G l₁ l₂ := Paired.mapP r f
theorem yY.stay (x:yY P w H h a o) (k:∀ b u,(b = a ∨ H b = some (.own a)) → h.get? b = some u → h'.get? b = some u)
    (ho:∀ b,H b = some (.own a) → H' b = some (.own a)) (ht:∀ b xs,H b = some (.tup xs) → H' b = some (.tup xs)):yY P w H' h' a o := by
  induction o with
  | lst xs => obtain ⟨z,its,n,r,e⟩ := x; exact ⟨z,its,n,r,k _ _ (.inl rfl) e⟩
  | tup xs => obtain ⟨z,its,r,ob,e,c⟩ := x; exact ⟨z,its,r,ob,k _ _ (.inl rfl) e,c⟩
  | dK kvs => obtain ⟨z,y,vs,r,ob,es,ep,e,c⟩ := x; exact ⟨z,y,vs,r,ob,es,ep,k _ _ (.inl rfl) e,c⟩
  | dT kvs =>
    obtain ⟨z,y,xs,r,ob,es,ep,e,c⟩ := x
    exact ⟨z,y,xs,Paired.mapP r fun p q z => ⟨z.1,ht _ _ z.2.1,z.2.2⟩,ob,es,ep,k _ _ (.inl rfl) e,c⟩
  | set S n => obtain ⟨ob,es,ep,t,e,c⟩ := x; exact ⟨ob,es,ep,t,k _ _ (.inl rfl) e,c⟩
  | ins C dx fs =>
    obtain ⟨d,z,ne,e,mA,⟨od,es,ep,e2,c⟩,r⟩ := x
    exact ⟨ho _ d,z,ne,k _ _ (.inl rfl) e,mA,⟨od,es,ep,k _ _ (.inr d) e2,c⟩,r⟩
  | own y => obtain ⟨ob,e⟩ := x; exact ⟨ob,k _ _ (.inl rfl) e⟩
  | xd fs => obtain ⟨mA,⟨od,es,ep,e,c⟩,r⟩ := x; exact ⟨mA,⟨od,es,ep,k _ _ (.inl rfl) e,c⟩,r⟩
  | rng lo hi => obtain ⟨t,u,v,e⟩ := x; exact ⟨t,u,v,k _ _ (.inl rfl) e⟩
  | frz ob u ih => obtain ⟨e,q⟩ := x; exact ⟨k _ _ (.inl rfl) e,ih q⟩
  | tbl ps =>
    have e:h.get? a = some { cls := .none,data := .fields ps } := x
    show h'.get? a = some { cls := .none,data := .fields ps }
    exact k a _ (.inl rfl) e
  | met f y =>
    have e:h.get? a = some (PySem.W.methodObj (.ref f) (.ref y)) := x
    show h'.get? a = some (PySem.W.methodObj (.ref f) (.ref y))
    exact k a _ (.inl rfl) e
  | ext φ => obtain ⟨p,⟨o,e⟩,st⟩ := x; exact ⟨st _ _ p fun o q => k _ _ (.inl rfl) q,⟨o,k _ _ (.inl rfl) e⟩,st⟩
theorem HOk.lt (x:HOk P w H h) (e:H a = some o):a < h.objs.size := (x a o e).lt
theorem HOk.fresh (x:HOk P w H h) (e:h.objs.size ≤ a):H a = none := by
  cases q:H a with
  | none => rfl
  | some u => exact absurd (Nat.lt_of_lt_of_le (x.lt q) e) (Nat.lt_irrefl _)
theorem HOk.kept (x:HOk P w H h) (k:∀ b u,h.get? b = some u → h'.get? b = some u):HOk P w H h' := fun a o e =>
  (x a o e).stay (fun b u _ q => k b u q) (fun _ q => q) fun _ _ q => q
theorem HOk.laid (x:HOk P w H h) (k:∀ b u,h.get? b = some u → h'.get? b = some u) (hp:h.objs.size ≤ a) (new:yY P w (upd H a o) h' a o):HOk P w (upd H a o) h' := fun b u e => by
  have hn := x.fresh hp
  by_cases hb:b = a
  · subst hb; rw [zn] at e; cases e; exact new
  · rw [zi hb] at e
    exact (x b u e).stay (fun c v _ q => k c v q) (fun c q => by rw [zi (y8 q hn)]; exact q) fun c xs q => by rw [zi (y8 q hn)]; exact q
end
noncomputable def Rd (H:Hp) (a:Addr) (u:HO):Prop := H a = some u ∨ ∃ o,H a = some (.frz o u)
theorem Rd.of {H:Hp} {a:Addr} {u:HO} (h:H a = some u):Rd H a u := .inl h
theorem Rd.ok {P:Program} {w:World} {H:Hp} {h:Heap} {a:Addr} {u:HO} (r:Rd H a u) (x:HOk P w H h):yY P w H h a u := by
  rcases r with r | ⟨o,r⟩
  · exact x a u r
  · obtain ⟨_,q⟩ := x a _ r
    exact q
noncomputable def Mut:Option HO → Prop
  | some (.lst _) => True
  | some (.dK _) => True
  | some (.dT _) => True
  | some (.set _ _) => True
  | some (.ins _ _ _) => True
  | some (.ext _) => True
  | _ => False
section
variable {P:Program} {w:World} {H:Hp} {h h':Heap} {x e:Addr} {o':HO}
theorem HOk.write (ok:HOk P w H h) (mu:Mut (H x)) (he:e = x ∨ H e = some (.own x)) (k:∀ b u,b ≠ e → h.get? b = some u → h'.get? b = some u) (heo:∃ u,h'.get? e = some u)
    (new:yY P w (upd H x o') h' x o'):HOk P w (upd H x o') h' := fun b u q => by
  have nown:∀ c y,H c = some (.own y) → c ≠ x := fun c y r z => by subst z; rw [r] at mu; exact mu
  have ntup:∀ c xs,H c = some (.tup xs) → c ≠ x := fun c xs r z => by subst z; rw [r] at mu; exact mu
  by_cases hb:b = x
  · subst hb; rw [zn] at q; cases q; exact new
  · rw [zi hb] at q
    by_cases hbe:b = e
    · have q':H b = some (.own x) := by
        rcases he with z | z
        · exact absurd (hbe.trans z) hb
        · rw [hbe]; exact z
      rw [q] at q'; cases q'
      obtain ⟨v,hv⟩ := heo
      exact ⟨v,by rw [hbe]; exact hv⟩
    · refine (ok b u q).stay (fun c v hc r => k c v ?_ r) (fun c r => by rw [zi (nown c b r)]; exact r) fun c xs r => by rw [zi (ntup c xs r)]; exact r
      rcases hc with rfl | hc
      · exact hbe
      · rintro rfl
        rcases he with z | z
        · exact nown c b hc z
        · rw [hc] at z; cases z; exact hb rfl
end
structure Un (fs ex:List Addr) (H H':Hp) (h h':Heap):Prop where
  keep:∀ b o,h.get? b = some o → H b = none → b ∉ fs → b ∉ ex → h'.get? b = some o
  slot:∀ b o,h.get? b = some o → H b = none → b ∈ fs → b ∉ ex → ∃ sl,h'.get? b = some { o with slots := sl }
  free:∀ b o,h.get? b = some o → H b = none → b ∉ ex → H' b = none
  there:∀ b o,h.get? b = some o → b ∉ ex → ∃ o',h'.get? b = some o'
  tups:∀ b xs,H b = some (.tup xs) → H' b = some (.tup xs)
  frzs:∀ b o u,H b = some (.frz o u) → H' b = some (.frz o u)
  tbls:∀ b ps,H b = some (.tbl ps) → ∃ more,H' b = some (.tbl (ps ++ more))
section
variable {fs fs' ex ex':List Addr} {H H1 H2:Hp} {h h1 h2 h':Heap} {a x e:Addr} {o:HO}
theorem Un.any (u:Un fs ex H H1 h h1) {b:Addr} {ob:Obj} (q:h.get? b = some ob) (n:H b = none) (hx:b ∉ ex):∃ sl,h1.get? b = some { ob with slots := sl } := by
  by_cases hb:b ∈ fs
  · exact u.slot b ob q n hb hx
  · exact ⟨ob.slots,u.keep b ob q n hb hx⟩
theorem Un.trans (a:Un fs ex H H1 h h1) (b:Un fs ex H1 H2 h1 h2):Un fs ex H H2 h h2 where
  keep := fun c ob q n hc hx => b.keep c ob (a.keep c ob q n hc hx) (a.free c ob q n hx) hc hx
  slot := fun c ob q n hc hx => by
    obtain ⟨sl,e1⟩ := a.slot c ob q n hc hx
    obtain ⟨sl',e2⟩ := b.slot c _ e1 (a.free c ob q n hx) hc hx
    exact ⟨sl',e2⟩
  free := fun c ob q n hx => by
    obtain ⟨o',e1⟩ := a.there c ob q hx
    exact b.free c o' e1 (a.free c ob q n hx) hx
  there := fun c ob q hx => by
    obtain ⟨o',e1⟩ := a.there c ob q hx
    exact b.there c o' e1 hx
  tups := fun c xs q => b.tups c xs (a.tups c xs q)
  frzs := fun c ob xs q => b.frzs c ob xs (a.frzs c ob xs q)
  tbls := fun c ps q => by
    obtain ⟨m1,e1⟩ := a.tbls c ps q
    obtain ⟨m2,e2⟩ := b.tbls c _ e1
    exact ⟨m1 ++ m2,by rw [e2,Array.append_assoc]⟩
theorem Un.kept (k:∀ b u,h.get? b = some u → h'.get? b = some u):Un fs ex H H h h' :=
  ⟨fun b ob q _ _ _ => k b ob q,fun b ob q _ _ _ => ⟨ob.slots,k b ob q⟩,fun _ _ _ n _ => n,fun b ob q _ => ⟨ob,k b ob q⟩,fun _ _ q => q,fun _ _ _ q => q,fun _ ps q => ⟨#[],by rw [q]; simp⟩⟩
theorem Un.refl:Un fs ex H H h h := Un.kept fun _ _ q => q
theorem Un.laid (k:∀ b u,h.get? b = some u → h'.get? b = some u) (hp:h.objs.size ≤ a) (hn:H a = none):Un fs ex H (upd H a o) h h' where
  keep := fun b u q _ _ _ => k b u q
  slot := fun b u q _ _ _ => ⟨u.slots,k b u q⟩
  free := fun b u q n _ => by rw [zi (Nat.ne_of_lt (Nat.lt_of_lt_of_le (Heap.lt_size q) hp))]; exact n
  there := fun b u q _ => ⟨u,k b u q⟩
  tups := fun b xs q => by rw [zi (y8 q hn)]; exact q
  frzs := fun b u xs q => by rw [zi (y8 q hn)]; exact q
  tbls := fun b ps q => ⟨#[],by rw [zi (y8 q hn),q]; simp⟩
theorem Un.write (mu:Mut (H x)) (he:e = x ∨ H e = some (.own x)) (k:∀ b u,b ≠ e → h.get? b = some u → h'.get? b = some u) (heo:∃ u,h'.get? e = some u):Un fs ex H (upd H x o) h h' := by
  have hx:∀ b,H b = none → b ≠ x := fun b n z => by subst z; rw [n] at mu; exact mu
  have hb:∀ b,H b = none → b ≠ e := fun b n z => by
    subst z
    rcases he with r | r
    · exact hx b n r
    · rw [n] at r; cases r
  have hm:∀ b u,H b = some u → ¬ Mut (some u) → b ≠ x := fun b u q nm z => by subst z; rw [q] at mu; exact nm mu
  refine ⟨fun b u q n _ _ => k b u (hb b n) q,fun b u q n _ _ => ⟨u.slots,k b u (hb b n) q⟩,fun b u q n _ => by rw [zi (hx b n)]; exact n,fun b u q _ => ?_,
    fun b xs q => by rw [zi (hm b _ q fun z => z)]; exact q,fun b u xs q => by rw [zi (hm b _ q fun z => z)]; exact q,fun b ps q => ⟨#[],by rw [zi (hm b _ q fun z => z),q]; simp⟩⟩
  by_cases hbe:b = e
  · subst hbe; exact heo
  · exact ⟨u,k b u hbe q⟩
theorem Un.mono (u:Un fs ex H H1 h h1) (hs:∀ b ∈ fs,b ∈ fs') (hx:∀ b ∈ ex,b ∈ ex'):Un fs' ex' H H1 h h1 :=
  ⟨fun b ob q n hb he => u.keep b ob q n (fun z => hb (hs b z)) fun z => he (hx b z),fun _ _ q n _ he => u.any q n fun z => he (hx _ z),fun b ob q n he => u.free b ob q n fun z => he (hx b z),fun b ob q he => u.there b ob q fun z => he (hx b z),u.tups,u.frzs,u.tbls⟩
end
noncomputable def trk (h:Heap) (H:Hp):List Addr := (List.range h.objs.size).filter fun a => (H a).isSome
noncomputable def jm (h:Heap) (H:Hp):Heap := PySem.W.hideAll h (trk h H)
theorem Q9 (h:Heap) (H:Hp):(jm h H).objs.size = h.objs.size := PySem.W.hideAll_size _ _
theorem Kh {h:Heap} {H:Hp} {b:Addr} {o:Obj} (e:h.get? b = some o) (n:H b = none):(jm h H).get? b = some o :=
  PySem.W.hideAll_get _ e fun hm => by
    have q:(H b).isSome = true := (List.mem_filter.mp hm).2
    rw [n] at q; simp at q
theorem zbM {h:Heap} {H:Hp} {b:Addr} {o:Obj} (e:(jm h H).get? b = some o):h.get? b = some o ∧ H b = none := by
  have e':h.get? b = some o := PySem.W.of_hideAll (trk h H) e
  refine ⟨e',?_⟩
  cases q:H b with
  | none => rfl
  | some x =>
    have hm:b ∈ trk h H := List.mem_filter.mpr ⟨List.mem_range.mpr (Heap.lt_size e'),by simp [q]⟩
    have z:(jm h H).get? b = none := PySem.W.hideAll_none (trk h H) hm
    rw [z] at e; cases e
noncomputable def zbN (g h:Heap) (L:Addr):List (Addr × Obj) := (List.range h.objs.size).filterMap fun a => if a = L ∨ (g.get? a).isSome = true then none else (h.get? a).map fun o => (a,o)
noncomputable def xN (g h:Heap) (L d:Addr):List (Addr × Obj) := (zbN g h L).filter fun p => decide (p.1 ≠ d)
end L2
namespace L2
open PySem PySem.Spec PyProof.Rows
structure Mod (K:PySem.W.Frag) (mg:Str → Option Value) (base:Heap):Prop where
  kin:K.In base
  glob:base.Ns mainGlobals mg
  blt:∃ mb,base.Ns builtinsNs mb ∧ ∀ x:Str,x ≠ "__name__" → mb x = bootBuiltins x
  nolimit:base.NoLimit
structure Cx where
  prog:Program
  w:World
  K:PySem.W.Frag
  mg:Str → Option Value
  base:Heap
  A:Around
  N:List Str
  s₀:Shared
  H₀:Hp
  env:Env
  outer:List Env
  stack:List Env
  ex:List Addr
  fn:Str → Bool
  calm:Bool
  pn:List (Addr × Obj)
  xe:Value → Shared → Prop
noncomputable def frs (l:List Env):List Addr := l.filterMap (·.frame)
noncomputable abbrev Cx.fs (X:Cx):List Addr := frs X.outer
noncomputable def Vis (sc:Scope) (x:Str):Prop := sc.names.lookup x = some .local ∨ sc.names.lookup x = some .cell ∨ sc.names.lookup x = some .free
noncomputable def Loc (sc:Scope) (x:Str):Prop := sc.names.lookup x = some .local ∨ sc.names.lookup x = some .cell
noncomputable def Look (env:Env) (h:Heap) (m:Str → Option Value) (x:Str) (u:Value):Prop :=
  (env.kindOf x = some .local ∧ m x = some u) ∨ ((env.kindOf x = some .cell ∨ env.kindOf x = some .free) ∧ ∃ c,env.cells.lookup x = some c ∧ h.IsCell c (some u))
structure Cx.Ok (X:Cx):Prop where
  mod:Mod X.K X.mg X.base
  kind:X.env.scope.kind = .function
  glob:X.env.globals = mainGlobals
  blt:X.env.builtins = builtinsNs
  above:X.s₀.heap.objs.size ≤ X.env.locals
  inj:∀ x y c,X.env.cells.lookup x = some c → X.env.cells.lookup y = some c → x = y
  has:∀ x,(X.env.kindOf x = some .cell ∨ X.env.kindOf x = some .free) → ∃ c,X.env.cells.lookup x = some c
  cab:∀ x c,X.fn x = true → X.env.cells.lookup x = some c → X.s₀.heap.objs.size ≤ c
  hd:X.calm = true → X.A.handled = none
  frames:X.A.frames = some X.stack
  stk:X.stack = X.outer ∨ (X.stack = X.env :: X.outer ∧ X.env.frame = some X.env.locals)
  exf:∀ b ∈ X.ex,b ≠ X.env.locals ∧ ∀ x c,X.env.cells.lookup x = some c → c ≠ b
  bs:∀ b o,X.base.get? b = some o → X.s₀.heap.get? b = some o ∧ X.H₀ b = none
  bsz:X.base.objs.size ≤ X.s₀.heap.objs.size
  noex:∀ b o,X.base.get? b = some o → b ∉ X.ex
  exfs:∀ b ∈ X.ex,b ∉ X.fs
  funs:X.s₀.heap.FunFrames X.base X.outer
  frf:∀ b ∈ X.fs,X.H₀ b = none
structure Inv (X:Cx) (pins:List (Addr × Obj)) (σ:List (Option V)) (H:Hp) (s:Shared):Prop where
  ok:X.Ok
  os:s.os = X.s₀.os
  bare:AllBare s.gens
  base:Un X.fs X.ex X.H₀ H X.s₀.heap s.heap
  loc:∃ m,s.heap.Ns X.env.locals m ∧ ∀ (i:Nat) (x:Str) (v:V),X.N[i]? = some x → σ[i]? = some (some v) → Vis X.env.scope x → ∃ u,RelV v u ∧ Look X.env s.heap m x u
  cell:∀ x c,X.env.cells.lookup x = some c → ∃ v,s.heap.IsCell c v
  free:H X.env.locals = none
  freeC:∀ x c,X.env.cells.lookup x = some c → H c = none
  pin:∀ p ∈ X.pn ++ pins,s.heap.get? p.1 = some p.2 ∧ H p.1 = none ∧ p.1 ≠ X.env.locals ∧ p.1 ∉ X.fs ∧ ∀ v,p.2.data ≠ .cell v
  hok:HOk X.prog X.w H s.heap
  len:σ.length = X.N.length
section
variable {X:Cx} {pins:List (Addr × Obj)} {σ:List (Option V)} {H H':Hp} {s:Shared} {h':Heap}
theorem Cx.Ok.nofr (ok:X.Ok) {b:Addr} {o:Obj} (e:X.base.get? b = some o):b ∉ X.fs := fun hb => by
  have := (ok.funs.mem hb).1
  rw [e] at this; cases this
theorem Inv.bs (I:Inv X pins σ H s):∀ b o,X.base.get? b = some o → s.heap.get? b = some o ∧ H b = none := fun b o e =>
  ⟨I.base.keep b o (I.ok.bs b o e).1 (I.ok.bs b o e).2 (I.ok.nofr e) (I.ok.noex b o e),I.base.free b o (I.ok.bs b o e).1 (I.ok.bs b o e).2 (I.ok.noex b o e)⟩
theorem Inv.bk (I:Inv X pins σ H s):∀ b o,X.base.get? b = some o → s.heap.get? b = some o := fun b o e => (I.bs b o e).1
theorem Inv.mod (I:Inv X pins σ H s):Mod X.K X.mg X.base := I.ok.mod
theorem Inv.kIn (I:Inv X pins σ H s):X.K.In s.heap := I.ok.mod.kin.keeps I.bk
theorem Inv.nolimit (I:Inv X pins σ H s):s.heap.NoLimit := I.ok.mod.nolimit.keeps I.bk
theorem Inv.lt (I:Inv X pins σ H s):X.env.locals < s.heap.objs.size := let ⟨_,hn,_⟩ := I.loc; hn.lt
theorem Inv.sz (I:Inv X pins σ H s):X.s₀.heap.objs.size ≤ s.heap.objs.size := Nat.le_trans I.ok.above (Nat.le_of_lt I.lt)
theorem Inv.nofs (I:Inv X pins σ H s) {a:Addr} (h:s.heap.objs.size ≤ a):a ∉ X.fs := fun hb => by
  obtain ⟨_,o,ho,_⟩ := I.ok.funs.mem hb
  exact absurd (Nat.lt_of_lt_of_le (Heap.lt_size ho) (Nat.le_trans I.sz h)) (Nat.lt_irrefl _)
theorem Inv.cne (I:Inv X pins σ H s):∀ x c,X.env.cells.lookup x = some c → c ≠ X.env.locals := fun x c e z => by
  obtain ⟨v,o,ho,hd⟩ := I.cell x c e
  obtain ⟨m,⟨o',es,ep,ho',hd',_⟩,_⟩ := I.loc
  rw [z,ho'] at ho; cases ho; rw [hd'] at hd; cases hd
theorem Inv.funs (I:Inv X pins σ H s):s.heap.FunFrames X.base X.outer := by
  have all:∀ (l:List Env),(∀ b ∈ frs l,b ∈ X.fs) → X.s₀.heap.FunFrames X.base l → s.heap.FunFrames X.base l := by
    intro l
    induction l with
    | nil => intro _ _; trivial
    | cons env r ih =>
      intro hs hl
      obtain ⟨hk,⟨L,o,hf,hn,ho,hd⟩,hr⟩ := hl
      have hL:L ∈ X.fs := hs L (by unfold frs; rw [List.filterMap_cons,hf]; exact List.mem_cons_self)
      obtain ⟨sl,e⟩ := I.base.slot L o ho (I.ok.frf L hL) hL fun z => I.ok.exfs L z hL
      exact ⟨hk,⟨L,_,hf,hn,e,hd⟩,ih (fun b hb => hs b (by unfold frs; rw [List.filterMap_cons,hf]; exact List.mem_cons_of_mem _ hb)) hr⟩
  exact all X.outer (fun _ hb => hb) I.ok.funs
theorem Inv.stack (I:Inv X pins σ H s):s.heap.FunFrames X.base X.stack := by
  rcases I.ok.stk with e | ⟨e,hf⟩
  · rw [e]; exact I.funs
  · rw [e]
    obtain ⟨m,hn,_⟩ := I.loc
    refine .cons (by rw [I.ok.kind]; decide) hf hn ?_ I.funs
    exact Heap.get?_none_of_le (Nat.le_trans I.ok.bsz I.ok.above)
theorem Inv.stkSub (I:Inv X pins σ H s):∀ b ∈ frs X.stack,b ∈ X.env.locals :: X.fs := fun b hb => by
  rcases I.ok.stk with e | ⟨e,hf⟩
  · rw [e] at hb; exact List.mem_cons_of_mem _ hb
  · rw [e] at hb
    unfold frs at hb
    rw [List.filterMap_cons,hf] at hb
    exact hb
theorem Inv.stkFree (I:Inv X pins σ H s):∀ b ∈ frs X.stack,H b = none := fun b hb => by
  rcases List.mem_cons.mp (I.stkSub b hb) with e | hb
  · rw [e]; exact I.free
  · obtain ⟨_,o,ho,_⟩ := I.ok.funs.mem hb
    exact I.base.free b o ho (I.ok.frf b hb) fun z => I.ok.exfs b z hb
theorem Inv.step {g':Array GenState} {t':Nat} {d':Drawn} {ch:List Addr} (I:Inv X pins σ H s)
    (hch:∀ b ∈ ch,(b ∈ X.ex ∨ X.s₀.heap.objs.size ≤ b) ∧ b ≠ X.env.locals ∧ (∀ x c,X.env.cells.lookup x = some c → c ≠ b) ∧ ∀ p ∈ X.pn ++ pins,p.1 ≠ b)
    (keep:∀ b o,b ≠ X.env.locals → b ∉ X.fs → b ∉ ch → s.heap.get? b = some o → H b = none → h'.get? b = some o)
    (slot:∀ b o,b ≠ X.env.locals → b ∈ X.fs → b ∉ ch → s.heap.get? b = some o → H b = none → ∃ sl,h'.get? b = some { o with slots := sl }) (free:∀ b o,b ∉ ch → s.heap.get? b = some o → H b = none → H' b = none)
    (there:∀ b o,b ∉ ch → s.heap.get? b = some o → ∃ o',h'.get? b = some o')
    (tups:∀ b xs,H b = some (.tup xs) → H' b = some (.tup xs)) (frzs:∀ b o u,H b = some (.frz o u) → H' b = some (.frz o u)) (tbls:∀ b ps,H b = some (.tbl ps) → ∃ more,H' b = some (.tbl (ps ++ more)))
    (ns:∀ m,s.heap.Ns X.env.locals m → h'.Ns X.env.locals m) (hok:HOk X.prog X.w H' h') (hg:AllBare g') :
    Inv X pins σ H' { s with heap := h',gens := g',drawn := d',toks := t' } := by
  have neL:∀ b o,X.s₀.heap.get? b = some o → b ≠ X.env.locals := fun b o e => Nat.ne_of_lt (Nat.lt_of_lt_of_le (Heap.lt_size e) I.ok.above)
  have neC:∀ b o,X.s₀.heap.get? b = some o → b ∉ X.ex → b ∉ ch := fun b o e hx hb => by
    rcases (hch b hb).1 with z | z
    · exact hx z
    · exact absurd (Nat.lt_of_lt_of_le (Heap.lt_size e) z) (Nat.lt_irrefl _)
  have cellK:∀ x c,X.env.cells.lookup x = some c → ∀ v,s.heap.IsCell c v → h'.IsCell c v := fun x c e v ⟨o,ho,hd⟩ => by
    have nch:c ∉ ch := fun z => (hch c z).2.2.1 x c e rfl
    by_cases hc:c ∈ X.fs
    · obtain ⟨sl,q⟩ := slot c o (I.cne x c e) hc nch ho (I.freeC x c e)
      exact ⟨_,q,hd⟩
    · exact ⟨o,keep c o (I.cne x c e) hc nch ho (I.freeC x c e),hd⟩
  refine ⟨I.ok,I.os,hg,⟨fun b o e n hb hx => ?_,fun b o e n hb hx => ?_,fun b o e n hx => ?_,fun b o e hx => ?_,fun b xs e => tups b xs (I.base.tups b xs e),fun b o xs e => frzs b o xs (I.base.frzs b o xs e),fun b ps e => ?_⟩,?_,fun x c e => ?_,?_,fun x c e => ?_,fun p hp => ?_,hok,I.len⟩
  · exact keep b o (neL b o e) hb (neC b o e hx) (I.base.keep b o e n hb hx) (I.base.free b o e n hx)
  · obtain ⟨sl,e1⟩ := I.base.slot b o e n hb hx
    obtain ⟨sl',e2⟩ := slot b _ (neL b o e) hb (neC b o e hx) e1 (I.base.free b o e n hx)
    exact ⟨sl',e2⟩
  · obtain ⟨o',e1⟩ := I.base.there b o e hx
    exact free b o' (neC b o e hx) e1 (I.base.free b o e n hx)
  · obtain ⟨o',e1⟩ := I.base.there b o e hx
    exact there b o' (neC b o e hx) e1
  · obtain ⟨m1,e1⟩ := I.base.tbls b ps e
    obtain ⟨m2,e2⟩ := tbls b _ e1
    exact ⟨m1 ++ m2,by rw [e2,Array.append_assoc]⟩
  · obtain ⟨m,hn,hl⟩ := I.loc
    refine ⟨m,ns m hn,fun i x v e1 e2 e3 => ?_⟩
    obtain ⟨u,r,l⟩ := hl i x v e1 e2 e3
    refine ⟨u,r,?_⟩
    rcases l with l | ⟨k,c,e,z⟩
    · exact .inl l
    · exact .inr ⟨k,c,e,cellK x c e _ z⟩
  · obtain ⟨v,z⟩ := I.cell x c e
    exact ⟨v,cellK x c e v z⟩
  · obtain ⟨m,⟨o,_,_,ho,_⟩,_⟩ := I.loc
    exact free _ o (fun z => (hch _ z).2.1 rfl) ho I.free
  · obtain ⟨v,o,ho,hd⟩ := I.cell x c e
    exact free c o (fun z => (hch c z).2.2.1 x c e rfl) ho (I.freeC x c e)
  · obtain ⟨e,n,ne,nf,d⟩ := I.pin p hp
    have nch:p.1 ∉ ch := fun z => (hch p.1 z).2.2.2 p hp rfl
    exact ⟨keep p.1 p.2 ne nf nch e n,free p.1 p.2 nch e n,ne,nf,d⟩
theorem Inv.un {t':Nat} (I:Inv X pins σ H s) (u:Un X.fs [] H H' s.heap h') (hok:HOk X.prog X.w H' h'):Inv X pins σ H' { s with heap := h',toks := t' } := by
  obtain ⟨m,⟨o,es,ep,ho,r⟩,_⟩ := id I.loc
  obtain ⟨sl,hL⟩ := u.any ho I.free (by simp)
  exact I.step (g' := s.gens) (d' := s.drawn) (ch := []) (fun _ z => nomatch z) (fun b o _ hb _ e n => u.keep b o e n hb (by simp)) (fun b o _ hb _ e n => u.slot b o e n hb (by simp)) (fun b o _ e n => u.free b o e n (by simp)) (fun b o _ e => u.there b o e (by simp)) u.tups u.frzs u.tbls (fun m' hm => by
    obtain ⟨o',es',ep',ho',r'⟩ := hm
    rw [ho] at ho'; cases ho'
    exact ⟨_,es',ep',hL,r'⟩) hok I.bare
theorem Inv.call {g':Array GenState} {t':Nat} {d':Drawn} {ch:List Addr} (I:Inv X pins σ H s) (u:Un (frs X.stack) ch H H' s.heap h') (hok:HOk X.prog X.w H' h') (hg:AllBare g')
    (hch:∀ b ∈ ch,(b ∈ X.ex ∨ X.s₀.heap.objs.size ≤ b) ∧ b ≠ X.env.locals ∧ (∀ x c,X.env.cells.lookup x = some c → c ≠ b) ∧ ∀ p ∈ X.pn ++ pins,p.1 ≠ b) :
    Inv X pins σ H' { s with heap := h',gens := g',drawn := d',toks := t' } := by
  obtain ⟨m,⟨o,es,ep,ho,r⟩,_⟩ := id I.loc
  obtain ⟨sl,hL⟩ := u.any ho I.free fun z => (hch _ z).2.1 rfl
  exact I.step (ch := ch) hch (fun b o hL hb hc e n => u.keep b o e n (fun z => (List.mem_cons.mp (I.stkSub b z)).elim hL hb) hc) (fun b o _ _ hc e n => u.any e n hc) (fun b o hc e n => u.free b o e n hc) (fun b o hc e => u.there b o e hc) u.tups u.frzs u.tbls (fun m' hm => by
    obtain ⟨o',es',ep',ho',r'⟩ := hm
    rw [ho] at ho'; cases ho'
    exact ⟨_,es',ep',hL,r'⟩) hok hg
theorem Inv.turned {t':Nat} {it:Addr} (I:Inv X pins σ H s) (k:∀ b o,b ≠ it → s.heap.get? b = some o → h'.get? b = some o) (hn:H it = none) (hL:it ≠ X.env.locals)
    (h1:it ∈ X.ex ∨ X.s₀.heap.objs.size ≤ it) (h2:∀ x c,X.env.cells.lookup x = some c → c ≠ it) (h3:∀ p ∈ X.pn ++ pins,p.1 ≠ it):Inv X pins σ H { s with heap := h',toks := t' } := by
  have nit:∀ b u,H b = some u → b ≠ it := fun b u e z => by rw [z,hn] at e; cases e
  refine I.step (g' := s.gens) (d' := s.drawn) (ch := [it]) (fun b hb => ?_) (fun b o _ _ hc e _ => k b o (fun z => hc (by simp [z])) e) (fun b o _ _ hc e _ => ⟨o.slots,k b o (fun z => hc (by simp [z])) e⟩) (fun _ _ _ _ n => n)
    (fun b o hc e => ⟨o,k b o (fun z => hc (by simp [z])) e⟩) (fun _ _ e => e) (fun _ _ _ e => e) (fun b ps e => ⟨#[],by rw [e]; simp⟩) (fun m hm => ?_) (fun b u e => ?_) I.bare
  · have e:b = it := by simpa using hb
    subst e
    exact ⟨h1,hL,h2,h3⟩
  · obtain ⟨o,es,ep,ho,r⟩ := hm
    exact ⟨o,es,ep,k _ o (Ne.symm hL) ho,r⟩
  · refine (I.hok b u e).stay (fun c v hc q => k c v ?_ q) (fun _ q => q) fun _ _ q => q
    rcases hc with z | z
    · rw [z]; exact nit b u e
    · exact nit c _ z
theorem Inv.tok (I:Inv X pins σ H s) (t:Nat):Inv X pins σ H { s with toks := t } := I.un (h' := s.heap) (t' := t) Un.refl I.hok
theorem Inv.kept {t':Nat} (I:Inv X pins σ H s) (k:∀ b u,s.heap.get? b = some u → h'.get? b = some u):Inv X pins σ H { s with heap := h',toks := t' } := I.un (Un.kept k) (I.hok.kept k)
theorem Inv.laid {a:Addr} {o:HO} {t':Nat} (I:Inv X pins σ H s) (k:∀ b u,s.heap.get? b = some u → h'.get? b = some u) (hp:s.heap.objs.size ≤ a) (new:yY X.prog X.w (upd H a o) h' a o) :
    Inv X pins σ (upd H a o) { s with heap := h',toks := t' } := I.un (Un.laid k hp (I.hok.fresh hp)) (I.hok.laid k hp new)
theorem Inv.write {x e:Addr} {o:HO} {t':Nat} (I:Inv X pins σ H s) (mu:Mut (H x)) (he:e = x ∨ H e = some (.own x)) (k:∀ b u,b ≠ e → s.heap.get? b = some u → h'.get? b = some u) (heo:∃ u,h'.get? e = some u)
    (new:yY X.prog X.w (upd H x o) h' x o):Inv X pins σ (upd H x o) { s with heap := h',toks := t' } := I.un (Un.write mu he k heo) (I.hok.write mu he k heo new)
theorem Inv.weak {σ':List (Option V)} (I:Inv X pins σ H s) (hl:σ'.length = σ.length) (w:∀ (i:Nat) v,σ'[i]? = some (some v) → σ[i]? = some (some v)):Inv X pins σ' H s :=
  ⟨I.ok,I.os,I.bare,I.base,let ⟨m,hn,hl'⟩ := I.loc; ⟨m,hn,fun i x v e1 e2 e3 => hl' i x v e1 (w i v e2) e3⟩,I.cell,I.free,I.freeC,I.pin,I.hok,hl.trans I.len⟩
theorem Inv.pins_of {pins':List (Addr × Obj)} (I:Inv X pins σ H s) (h:∀ p ∈ pins',s.heap.get? p.1 = some p.2 ∧ H p.1 = none ∧ p.1 ≠ X.env.locals ∧ p.1 ∉ X.fs ∧ ∀ v,p.2.data ≠ .cell v):Inv X pins' σ H s :=
  ⟨I.ok,I.os,I.bare,I.base,I.loc,I.cell,I.free,I.freeC,fun p hp => (List.mem_append.mp hp).elim (fun z => I.pin p (List.mem_append_left _ z)) (h p),I.hok,I.len⟩
theorem Xz {N:List Str} (hN:N.Nodup) {i j:Nat} {x:Str} (a:N[i]? = some x) (b:N[j]? = some x):i = j := by
  obtain ⟨h1,e1⟩ := List.getElem?_eq_some_iff.mp a
  obtain ⟨h2,e2⟩ := List.getElem?_eq_some_iff.mp b
  exact (List.getElem_inj hN).mp (e1.trans e2.symm)
theorem YO {M:Model} {A:Around} {E:Value → Shared → Prop} {i:Nat} {x:Str} {v:V} {u:Value} {Q:Unit → Shared → Prop} (I:Inv X pins σ H s) (hN:X.N.Nodup) (hi:X.N[i]? = some x) (hx:Loc X.env.scope x) (r:RelV v u)
    (h:∀ s',Inv X pins (σ.set i (some v)) H s' → (∃ a,Heap.SameBut a s.heap s'.heap ∧ (a = X.env.locals ∨ X.env.cells.lookup x = some a)) → Q () s') (hf:X.fn x = true ∨ X.env.scope.names.lookup x = some .local := by first | exact .inl rfl | exact .inr rfl | assumption):wpAny M A (storeName X.env x u) Q E s := by
  obtain ⟨m,hn,hl⟩ := id I.loc
  have hcls:(X.env.scope.kind == .class || (X.env.scope.kind == .module && X.env.locals != X.env.globals)) = false := by rw [I.ok.kind]; rfl
  have hiσ:i < σ.length := by rw [I.len]; exact (List.getElem?_eq_some_iff.mp hi).1
  have cne := I.cne
  have tracked:∀ {a:Addr} {h':Heap},(∃ o,s.heap.get? a = some o ∧ H a = none) → Heap.SameBut a s.heap h' → HOk X.prog X.w H h' := fun {a h'} ha hs b ob e => by
    obtain ⟨_,_,hfree⟩ := ha
    refine (I.hok b ob e).stay (fun c w' hc q => (hs.2 c ?_).trans q) (fun _ q => q) fun _ _ q => q
    rintro rfl
    rcases hc with rfl | hc
    · rw [hfree] at e; cases e
    · rw [hfree] at hc; cases hc
  rcases hx with hk | hk
  · refine wpAny_storeName_local hk hn (fun h' hn' hs => ?_) hcls
    obtain ⟨oL,_,_,hoL,_⟩ := id hn
    refine h _ ⟨I.ok,I.os,I.bare,⟨fun b o e n hb hx => ?_,fun b o e n hb hx => ?_,I.base.free,fun b o e hx => ?_,I.base.tups,I.base.frzs,I.base.tbls⟩,⟨_,hn',fun j y v' e1 e2 e3 => ?_⟩,fun y c e => ?_,I.free,I.freeC,fun p hp => ?_,tracked ⟨oL,hoL,I.free⟩ hs,by simpa using I.len⟩ ⟨_,hs,.inl rfl⟩
    · exact (hs.2 b (Nat.ne_of_lt (Nat.lt_of_lt_of_le (Heap.lt_size e) I.ok.above))).trans (I.base.keep b o e n hb hx)
    · obtain ⟨sl,e1⟩ := I.base.slot b o e n hb hx
      exact ⟨sl,(hs.2 b (Nat.ne_of_lt (Nat.lt_of_lt_of_le (Heap.lt_size e) I.ok.above))).trans e1⟩
    · obtain ⟨o',e1⟩ := I.base.there b o e hx
      exact ⟨o',(hs.2 b (Nat.ne_of_lt (Nat.lt_of_lt_of_le (Heap.lt_size e) I.ok.above))).trans e1⟩
    · by_cases hj:j = i
      · subst hj
        rw [hi] at e1; cases e1
        rw [List.getElem?_set_self hiσ] at e2
        cases e2
        exact ⟨u,r,.inl ⟨hk,by simp⟩⟩
      · rw [List.getElem?_set_ne (Ne.symm hj)] at e2
        obtain ⟨u',r',q⟩ := hl j y v' e1 e2 e3
        refine ⟨u',r',?_⟩
        rcases q with ⟨k,e⟩ | ⟨k,c,e,z⟩
        · refine .inl ⟨k,?_⟩
          have:y ≠ x := fun e => hj (Xz hN e1 (e ▸ hi))
          simp [this,e]
        · exact .inr ⟨k,c,e,z.sameBut hs (cne y c e)⟩
    · obtain ⟨w',z⟩ := I.cell y c e
      exact ⟨w',z.sameBut hs (cne y c e)⟩
    · obtain ⟨e,n,ne,nf,d⟩ := I.pin p hp
      exact ⟨(hs.2 p.1 ne).trans e,n,ne,nf,d⟩
  · have hfn:X.fn x = true := by
      rcases hf with z | z
      · exact z
      · rw [z] at hk; cases hk
    obtain ⟨c,hc⟩ := I.ok.has x (.inl hk)
    obtain ⟨w',z⟩ := I.cell x c hc
    refine wpAny_storeName_cell I.ok.kind hk hc z (fun h' hc' hs => ?_)
    obtain ⟨oc,hoc,hocd⟩ := id z
    refine h { s with heap := h' } ⟨I.ok,I.os,I.bare,⟨fun b o e n hb hx => ?_,fun b o e n hb hx => ?_,I.base.free,fun b o e hx => ?_,I.base.tups,I.base.frzs,I.base.tbls⟩,⟨m,hn.sameBut hs (Ne.symm (cne x c hc)),fun j y v' e1 e2 e3 => ?_⟩,fun y c' e => ?_,I.free,I.freeC,fun p hp => ?_,tracked ⟨oc,hoc,I.freeC x c hc⟩ hs,by simpa using I.len⟩ ⟨c,hs,.inr hc⟩
    · exact (hs.2 b (Nat.ne_of_lt (Nat.lt_of_lt_of_le (Heap.lt_size e) (I.ok.cab x c hfn hc)))).trans (I.base.keep b o e n hb hx)
    · obtain ⟨sl,e1⟩ := I.base.slot b o e n hb hx
      exact ⟨sl,(hs.2 b (Nat.ne_of_lt (Nat.lt_of_lt_of_le (Heap.lt_size e) (I.ok.cab x c hfn hc)))).trans e1⟩
    · obtain ⟨o',e1⟩ := I.base.there b o e hx
      exact ⟨o',(hs.2 b (Nat.ne_of_lt (Nat.lt_of_lt_of_le (Heap.lt_size e) (I.ok.cab x c hfn hc)))).trans e1⟩
    · by_cases hj:j = i
      · subst hj
        rw [hi] at e1; cases e1
        rw [List.getElem?_set_self hiσ] at e2
        cases e2
        exact ⟨u,r,.inr ⟨.inl hk,c,hc,hc'⟩⟩
      · rw [List.getElem?_set_ne (Ne.symm hj)] at e2
        obtain ⟨u',r',q⟩ := hl j y v' e1 e2 e3
        refine ⟨u',r',?_⟩
        rcases q with q | ⟨k,c',e,z'⟩
        · exact .inl q
        · refine .inr ⟨k,c',e,z'.sameBut hs ?_⟩
          rintro rfl
          exact hj (Xz hN e1 (I.ok.inj _ _ _ e hc ▸ hi))
    · by_cases hcc:c' = c
      · subst hcc; exact ⟨_,hc'⟩
      · obtain ⟨w2,z2⟩ := I.cell y c' e
        exact ⟨w2,z2.sameBut hs hcc⟩
    · obtain ⟨e,n,ne,nf,d⟩ := I.pin p hp
      refine ⟨(hs.2 p.1 ?_).trans e,n,ne,nf,d⟩
      intro q
      rw [q,hoc] at e
      have q':oc = p.2 := Option.some.inj e
      exact d w' (by rw [← q']; exact hocd)
theorem vS {M:Model} {A:Around} {E:Value → Shared → Prop} {i:Nat} {x:Str} {v:V} {u:Value} {Q:Unit → Shared → Prop} (I:Inv X pins σ H s) (hN:X.N.Nodup) (hi:X.N[i]? = some x) (hx:Loc X.env.scope x) (r:RelV v u)
    (h:∀ s',Inv X pins (σ.set i (some v)) H s' → Q () s') (hf:X.fn x = true ∨ X.env.scope.names.lookup x = some .local := by first | exact .inl rfl | exact .inr rfl | assumption):wpAny M A (storeName X.env x u) Q E s :=
  YO I hN hi hx r (fun s' I' _ => h s' I') hf
theorem Inv.call' {s':Shared} {ch:List Addr} (I:Inv X pins σ H s) (ho:s'.os = s.os) (u:Un (frs X.stack) ch H H' s.heap s'.heap) (hok:HOk X.prog X.w H' s'.heap) (hg:AllBare s'.gens)
    (hch:∀ b ∈ ch,(b ∈ X.ex ∨ X.s₀.heap.objs.size ≤ b) ∧ b ≠ X.env.locals ∧ (∀ x c,X.env.cells.lookup x = some c → c ≠ b) ∧ ∀ p ∈ X.pn ++ pins,p.1 ≠ b):Inv X pins σ H' s' := by
  obtain ⟨h',g',d',t',o'⟩ := s'
  have e:o' = s.os := ho
  subst e
  exact I.call (g' := g') (t' := t') (d' := d') u hok hg hch
end
noncomputable abbrev XK := Value → Option Addr → Hp → Prop
noncomputable abbrev St := List (Option V)
noncomputable abbrev VK := V → Hp → Prop
noncomputable abbrev TE := St → Hp → VK → Prop
noncomputable abbrev TT := St → Hp → (Bool → Hp → Prop) → Prop
noncomputable abbrev TA := St → Hp → (List V → Hp → Prop) → Prop
structure Ends where
  nx:St → Hp → Prop
  rt:VK
  bk:St → Hp → Prop := fun _ _ => False
  ct:St → Hp → Prop := fun _ _ => False
noncomputable abbrev TS := Ends → St → Hp → Prop
noncomputable def EP (X:Cx) (pins:List (Addr × Obj)) (σ:St) (Q:VK) (u:Value) (s':Shared):Prop := ∃ v H',Inv X pins σ H' s' ∧ RelV v u ∧ Q v H'
noncomputable def TP (X:Cx) (pins:List (Addr × Obj)) (σ:St) (Q:Bool → Hp → Prop) (b:Bool) (s':Shared):Prop := ∃ H',Inv X pins σ H' s' ∧ Q b H'
noncomputable def AP (X:Cx) (pins:List (Addr × Obj)) (σ:St) (Q:List V → Hp → Prop) (us:List Value) (s':Shared):Prop := ∃ vs H',Inv X pins σ H' s' ∧ Vals vs us ∧ Q vs H'
noncomputable def SP (X:Cx) (pins:List (Addr × Obj)) (D:Ends) (f:Flow) (s':Shared):Prop :=
  match f with
  | .next => ∃ σ' H',Inv X pins σ' H' s' ∧ D.nx σ' H'
  | .brk => ∃ σ' H',Inv X pins σ' H' s' ∧ D.bk σ' H'
  | .cont => ∃ σ' H',Inv X pins σ' H' s' ∧ D.ct σ' H'
  | .ret u => ∃ v σ' H',Inv X pins σ' H' s' ∧ RelV v u ∧ D.rt v H'
noncomputable def PE (X:Cx) (e:Expr) (t:TE):Prop :=
  ∀ (pins:List (Addr × Obj)) (s:Shared) (σ:St) (H:Hp) (Q:VK),Inv X pins σ H s → t σ H Q → wpAny (model X.prog X.w) X.A (eval e X.env) (EP X pins σ Q) X.xe s
noncomputable def PT (X:Cx) (e:Expr) (t:TT):Prop :=
  ∀ (pins:List (Addr × Obj)) (s:Shared) (σ:St) (H:Hp) (Q:Bool → Hp → Prop),Inv X pins σ H s → t σ H Q → wpAny (model X.prog X.w) X.A (isTrue e X.env (eval e X.env)) (TP X pins σ Q) X.xe s
noncomputable def PW (X:Cx) (e:Expr) (t:TT):Prop :=
  ∀ (whole:Sem Value) (pins:List (Addr × Obj)) (s:Shared) (σ:St) (H:Hp) (Q:Bool → Hp → Prop),Inv X pins σ H s → t σ H Q → wpAny (model X.prog X.w) X.A (isTrue e X.env whole) (TP X pins σ Q) X.xe s
theorem PW.pt {X:Cx} {e:Expr} {t:TT} (h:PW X e t):PT X e t := h _
noncomputable def PA (X:Cx) (es:List Expr) (t:TA):Prop :=
  ∀ (pos:Pos) (pins:List (Addr × Obj)) (s:Shared) (σ:St) (H:Hp) (Q:List V → Hp → Prop),Inv X pins σ H s → t σ H Q → wpAny (model X.prog X.w) X.A (spliced (backTo pos (starEach es X.env))) (AP X pins σ Q) X.xe s
noncomputable def PS (X:Cx) (st:Stmt) (t:TS):Prop :=
  ∀ (pins:List (Addr × Obj)) (s:Shared) (σ:St) (H:Hp) (D:Ends),Inv X pins σ H s → t D σ H → wpAny (model X.prog X.w) X.A (exec st X.env) (SP X pins D) X.xe s
noncomputable def PSs (X:Cx) (st:List Stmt) (t:TS):Prop :=
  ∀ (pins:List (Addr × Obj)) (s:Shared) (σ:St) (H:Hp) (D:Ends),Inv X pins σ H s → t D σ H → wpAny (model X.prog X.w) X.A (execs st X.env) (SP X pins D) X.xe s
theorem thn {α:Type} {t:Sem α} {Q Q':α → Shared → Prop} {M:Model} {A:Around} {E:Value → Shared → Prop} {s:Shared} (h:wpAny M A t Q E s) (hQ:∀ a s,Q a s → Q' a s):wpAny M A t Q' E s := wpAny_mono h hQ fun _ _ x => x
end L2
namespace L2
open PySem PySem.Spec PyProof.Rows
section
variable {X:Cx}
noncomputable def UW (i:Nat):TE := fun σ H Q => ∃ v,σ[i]? = some (some v) ∧ Q v H
noncomputable def tC (v:V):TE := fun _ H Q => Q v H
theorem zdc {i:Nat} {x:Str} {pos:Pos} (hN:X.N[i]? = some x) (hv:Vis X.env.scope x) (hd:(x == ("__debug__":Str)) = false := by decide) (hcd:(x == ("__classdict__":Str)) = false := by decide):PE X (.Name x pos) (UW i) := by
  intro pins s σ H Q I h
  obtain ⟨v,e,h⟩ := h
  obtain ⟨m,hn,hl⟩ := I.loc
  obtain ⟨u,r,l⟩ := hl i x v hN e hv
  have fin:EP X pins σ Q u s := ⟨v,H,I,r,h⟩
  rcases l with ⟨hk,hm⟩ | ⟨hk,c,hc,hcell⟩
  · exact wpAny_Name (wpAny_loadName_local I.ok.kind hk hn hm fin) hd
  · rcases hk with hk | hk
    · exact wpAny_Name (wpAny_loadName_cell I.ok.kind hk hc hcell fin) hd
    · exact wpAny_Name (wpAny_loadName_free I.ok.kind hk hc hcell fin hcd) hd
theorem za {i j pos}:PE X (.Constant (.int i) j pos) (tC (.int i)) := fun _ _ _ H _ I h => wpAny_Constant_int ⟨.int i,H,I.tok _,⟨_,rfl⟩,h⟩
theorem xH {b j pos}:PE X (.Constant (.bool b) j pos) (tC (.bl b)) := fun _ _ _ H _ I h => Constant_bool ⟨.bl b,H,I,rfl,h⟩
theorem yJ {j pos}:PE X (.Constant .none j pos) (tC .non) := fun _ _ _ H _ I h => Constant_none ⟨.non,H,I,rfl,h⟩
theorem zg {x j pos}:PE X (.Constant (.str x) j pos) (tC (.str x)) := fun _ _ _ H _ I h => Calls.Constant_str ⟨.str x,H,I.tok _,⟨_,rfl⟩,h⟩
noncomputable def Gl (X:Cx) (x:Str):Prop := X.env.kindOf x = some .globalImplicit
theorem Yh {E:Value → Shared → Prop} {pins:List (Addr × Obj)} {s:Shared} {σ:St} {H:Hp} {x:Str} {u:Value} {pos:Pos} {Q:Value → Shared → Prop} (I:Inv X pins σ H s) (hg:Gl X x) (hm:X.mg x = some u) (h:Q u s)
    (hd:(x == ("__debug__":Str)) = false := by decide):wpAny (model X.prog X.w) X.A (eval (.Name x pos) X.env) Q E s :=
  Calls.Name_function_global I.ok.kind hg (Calls.loadGlobal_global (by rw [I.ok.glob]; exact I.mod.glob.keeps I.bk) hm h) hd
theorem vY {E:Value → Shared → Prop} {pins:List (Addr × Obj)} {s:Shared} {σ:St} {H:Hp} {x:Str} {u:Value} {pos:Pos} {Q:Value → Shared → Prop} (I:Inv X pins σ H s) (hg:Gl X x) (hm:X.mg x = none) (hv:bootBuiltins x = some u) (h:Q u s)
    (hn:x ≠ "__name__" := by decide) (hd:(x == ("__debug__":Str)) = false := by decide):wpAny (model X.prog X.w) X.A (eval (.Name x pos) X.env) Q E s := by
  obtain ⟨mb,h1,h2⟩ := I.mod.blt
  exact Calls.Name_function_global I.ok.kind hg (Calls.loadGlobal_builtin (by rw [I.ok.glob]; exact I.mod.glob.keeps I.bk) hm (by rw [I.ok.blt]; exact h1.keeps I.bk) ((h2 x hn).trans hv) h) hd
theorem kK {x:Str} {v:V} {u:Value} {pos:Pos} (hg:Gl X x) (hm:X.mg x = some u) (r:RelV v u) (hd:(x == ("__debug__":Str)) = false := by decide):PE X (.Name x pos) (tC v) :=
  fun _ _ _ H _ I h => Yh I hg hm ⟨v,H,I,r,h⟩ hd
theorem Yi {x:Str} {v:V} {u:Value} {pos:Pos} (hg:Gl X x) (hm:X.mg x = none) (hv:bootBuiltins x = some u) (r:RelV v u) (hn:x ≠ "__name__" := by decide) (hd:(x == ("__debug__":Str)) = false := by decide):PE X (.Name x pos) (tC v) :=
  fun _ _ _ H _ I h => vY I hg hm hv ⟨v,H,I,r,h⟩ hn hd
variable {a b:Expr} {ta tb:TE} {pos:Pos}
noncomputable def tB (t:TE):TT := fun σ H Q => t σ H fun x H1 => ∃ c,x = .bl c ∧ Q c H1
theorem uv {e:Expr} {t:TE} (h:PE X e t) (he:∀ whole,isTrue e X.env whole = (do let v ← whole; standAt e.pos; holding [v] (truthy v)) := by intro _; rfl):PT X e (tB t) := by
  intro pins s σ H Q I hw
  refine isTrue_plain (thn (h pins s σ H _ I hw) fun v s1 ⟨x,H1,I1,r1,q1⟩ => ?_) (he _)
  obtain ⟨d,rfl,q⟩ := q1
  cases r1
  exact wpAny_truthy_bool ⟨H1,I1,q⟩
variable {tA tB':TT} {xN:List Expr}
noncomputable def zdd (t u:TT):TT := fun σ H Q => t σ H fun c H1 => if c = true then u σ H1 Q else Q false H1
noncomputable def tOr (t u:TT):TT := fun σ H Q => t σ H fun c H1 => if c = true then Q true H1 else u σ H1 Q
noncomputable def zde (t:TT):TT := fun σ H Q => t σ H fun c H1 => Q (!c) H1
theorem qR (ha:PT X a tA):PW X (.BoolOp .And [a] pos) tA := by
  intro wh pins s σ H Q I h
  refine isTrue_and (thn (ha pins s σ H Q I h) fun c s1 e => ?_)
  cases c with
  | true => exact isTrue_and_nil e
  | false => exact e
theorem jV (ha:PT X a tA):PW X (.BoolOp .Or [a] pos) tA := by
  intro wh pins s σ H Q I h
  refine isTrue_or (thn (ha pins s σ H Q I h) fun c s1 e => ?_)
  cases c with
  | false => exact isTrue_or_nil e
  | true => exact e
theorem qS (ha:PT X a tA) (hb:PW X (.BoolOp .And (b :: xN) pos) tB'):PW X (.BoolOp .And (a :: b :: xN) pos) (zdd tA tB') := by
  intro wh pins s σ H Q I h
  refine isTrue_and (thn (ha pins s σ H _ I h) fun c s1 ⟨H1,I1,q1⟩ => ?_)
  cases c with
  | true => exact hb wh pins s1 σ H1 Q I1 q1
  | false => exact ⟨H1,I1,q1⟩
theorem jn (ha:PT X a tA) (hb:PW X (.BoolOp .Or (b :: xN) pos) tB'):PW X (.BoolOp .Or (a :: b :: xN) pos) (tOr tA tB') := by
  intro wh pins s σ H Q I h
  refine isTrue_or (thn (ha pins s σ H _ I h) fun c s1 ⟨H1,I1,q1⟩ => ?_)
  cases c with
  | true => exact ⟨H1,I1,q1⟩
  | false => exact hb wh pins s1 σ H1 Q I1 q1
theorem Zy (ha:PT X a tA):PT X (.UnaryOp .Not a pos) (zde tA) := by
  intro pins s σ H Q I h
  exact isTrue_not (ha pins s σ H (fun c H1 => Q (!c) H1) I h)
noncomputable def zaR (ta tb:TE):TE := fun σ H Q => ta σ H fun x H1 => ∃ c,x = .bl c ∧ if c = true then tb σ H1 Q else Q (.bl false) H1
noncomputable def zaS (ta:TE):TE := fun σ H Q => ta σ H fun x H1 => ∃ c,x = .bl c ∧ Q (.bl (!c)) H1
theorem Zz {op} {t:TE} (h:PE X a t):PE X (.BoolOp op [a] pos) t := fun pins s σ H Q I hw => BoolOp_one (h pins s σ H Q I hw)
theorem ZA (ha:PE X a ta) (hb:PE X (.BoolOp .And (b :: xN) pos) tb):PE X (.BoolOp .And (a :: b :: xN) pos) (zaR ta tb) := by
  intro pins s σ H Q I h
  refine BoolOp_and (thn (ha pins s σ H _ I h) fun v s1 ⟨x,H1,I1,r1,q1⟩ => ?_)
  obtain ⟨c,rfl,q1⟩ := q1
  cases r1
  refine wpAny_truthy_bool ?_
  cases c with
  | true => exact hb pins s1 σ H1 Q I1 q1
  | false => exact ⟨.bl false,H1,I1,rfl,q1⟩
theorem zdf (ha:PE X a ta):PE X (.UnaryOp .Not a pos) (zaS ta) := by
  intro pins s σ H Q I h
  refine UnaryOp_ (thn (ha pins s σ H _ I h) fun v s1 ⟨x,H1,I1,r1,q1⟩ => ?_)
  obtain ⟨c,rfl,q1⟩ := q1
  cases r1
  exact not_of (wpAny_truthy_bool ⟨.bl (!c),H1,I1,rfl,q1⟩)
noncomputable def tIf (t:TT) (ta tb:TE):TE := fun σ H Q => t σ H fun c H1 => if c = true then ta σ H1 Q else tb σ H1 Q
theorem xg {c:Expr} (hc:PT X c tA) (ha:PE X a ta) (hb:PE X b tb):PE X (.IfExp c a b pos) (tIf tA ta tb) := by
  intro pins s σ H Q I h
  refine wpAny_IfExp (thn (hc pins s σ H _ I h) fun d s1 ⟨H1,I1,q1⟩ => ?_)
  cases d with
  | true => exact ha pins s1 σ H1 Q I1 q1
  | false => exact hb pins s1 σ H1 Q I1 q1
end
end L2
namespace L2
open PySem PySem.Spec PyProof.Rows
noncomputable def SqL (K:PySem.W.Frag) (H:Hp) (a:Addr) (xs:List V):Prop :=
  Rd H a (.lst xs) ∨
    ∃ (o:Obj) (its:Array Value) (n:Nat),K.lookup a = some o ∧ o.cls = .type "list" ∧ o.dict = none ∧ o.data = .seq its n ∧ its.size ≤ sizeLine ∧ Vals xs its.toList
noncomputable def SqT (K:PySem.W.Frag) (H:Hp) (a:Addr) (xs:List V):Prop :=
  Rd H a (.tup xs) ∨
    ∃ (o:Obj) (its:Array Value) (n:Nat),K.lookup a = some o ∧ o.cls = .type "tuple" ∧ o.data = .seq its n ∧ its.size ≤ sizeLine ∧ Vals xs its.toList
noncomputable def zfI:Value → Option V
  | .none => some .non
  | .bool b => some (.bl b)
  | .int i _ => some (.int i)
  | .str x _ => some (.str x)
  | .bytes b _ => some (.byt b)
  | .float b _ => some (.flt b)
  | .ref a => some (.ref a)
  | .type n => some (.ty n)
  | _ => none
theorem RelV.abs {x:V} {u:Value} (r:RelV x u):zfI u = some x := by
  cases x with
  | non => cases r; rfl
  | bl _ => cases r; rfl
  | int _ => obtain ⟨t,rfl⟩ := r; rfl
  | str _ => obtain ⟨t,rfl⟩ := r; rfl
  | byt _ => obtain ⟨t,rfl⟩ := r; rfl
  | flt _ => obtain ⟨t,rfl⟩ := r; rfl
  | ref _ => cases r; rfl
  | ty _ => cases r; rfl
theorem RelV.inj {x y:V} {u:Value} (r:RelV x u) (q:RelV y u):x = y := Option.some.inj (r.abs.symm.trans q.abs)
theorem Vals.inj:∀ {xs ys:List V} {us:List Value},Vals xs us → Vals ys us → xs = ys
  | _,_,_,.nil,.nil => rfl
  | _,_,_,.cons r t,.cons r' t' => by rw [r.inj r',Vals.inj t t']
section
variable {X:Cx} {pins:List (Addr × Obj)} {σ:St} {H:Hp} {s:Shared} {a:Addr} {xs ys:List V}
theorem SqL.of {K:PySem.W.Frag} (h:H a = some (.lst xs)):SqL K H a xs := .inl (.inl h)
theorem SqT.of {K:PySem.W.Frag} (h:H a = some (.tup xs)):SqT K H a xs := .inl (.inl h)
theorem Inv.list (I:Inv X pins σ H s) (h:SqL X.K H a xs):∃ its:List Value,Vals xs its ∧ PlainL s.heap a its.toArray ∧ xs.length ≤ sizeLine := by
  rcases h with h | ⟨o,its,n,hk,hc,hd,hs,hz,r⟩
  · obtain ⟨z,its,n,r,e⟩ := h.ok I.hok
    exact ⟨its,r,⟨_,n,e,rfl,rfl,rfl⟩,z⟩
  · refine ⟨its.toList,r,⟨o,n,I.kIn a o hk,hc,hd,by simpa using hs⟩,?_⟩
    have e := r.length
    simp only [Array.length_toList] at e
    omega
theorem Inv.tuple (I:Inv X pins σ H s) (h:SqT X.K H a xs):∃ its:List Value,Vals xs its ∧ IsTup s.heap a its.toArray ∧ xs.length ≤ sizeLine := by
  rcases h with h | ⟨o,its,n,hk,hc,hs,hz,r⟩
  · obtain ⟨z,its,r,p⟩ := h.ok I.hok
    exact ⟨its,r,p,z⟩
  · refine ⟨its.toList,r,⟨o,I.kIn a o hk,hc,n,by simpa using hs⟩,?_⟩
    have e := r.length
    simp only [Array.length_toList] at e
    omega
theorem Inv.list_inj (I:Inv X pins σ H s) (h:SqL X.K H a xs) (h':SqL X.K H a ys):xs = ys := by
  obtain ⟨its,r,⟨o,n,e,_,_,d⟩,_⟩ := I.list h
  obtain ⟨its',r',⟨o',n',e',_,_,d'⟩,_⟩ := I.list h'
  rw [e] at e'; cases e'
  rw [d] at d'
  injection d' with d1 _
  have:its = its' := by simpa using congrArg Array.toList d1
  subst this
  exact r.inj r'
theorem Inv.tuple_inj (I:Inv X pins σ H s) (h:SqT X.K H a xs) (h':SqT X.K H a ys):xs = ys := by
  obtain ⟨its,r,⟨o,e,_,n,d⟩,_⟩ := I.tuple h
  obtain ⟨its',r',⟨o',e',_,n',d'⟩,_⟩ := I.tuple h'
  rw [e] at e'; cases e'
  rw [d] at d'
  injection d' with d1 _
  have:its = its' := by simpa using congrArg Array.toList d1
  subst this
  exact r.inj r'
end
noncomputable abbrev Cx.wish (X:Cx) (E:Value → Shared → Prop):Cx := { X with xe := E }
noncomputable abbrev Cx.nox (X:Cx):Cx := X.wish fun _ _ => False
theorem Cx.Ok.wish {X:Cx} (ok:X.Ok) (E:Value → Shared → Prop):(X.wish E).Ok :=
  ⟨ok.mod,ok.kind,ok.glob,ok.blt,ok.above,ok.inj,ok.has,ok.cab,ok.hd,ok.frames,ok.stk,ok.exf,ok.bs,ok.bsz,ok.noex,ok.exfs,ok.funs,ok.frf⟩
theorem Cx.Ok.unwish {X:Cx} {E:Value → Shared → Prop} (ok:(X.wish E).Ok):X.Ok :=
  ⟨ok.mod,ok.kind,ok.glob,ok.blt,ok.above,ok.inj,ok.has,ok.cab,ok.hd,ok.frames,ok.stk,ok.exf,ok.bs,ok.bsz,ok.noex,ok.exfs,ok.funs,ok.frf⟩
section
variable {X:Cx} {pins:List (Addr × Obj)} {σ:St} {H:Hp} {s:Shared} {E:Value → Shared → Prop}
theorem Inv.wish (I:Inv X pins σ H s) (E:Value → Shared → Prop):Inv (X.wish E) pins σ H s := ⟨I.ok.wish E,I.os,I.bare,I.base,I.loc,I.cell,I.free,I.freeC,I.pin,I.hok,I.len⟩
theorem Inv.unwish (I:Inv (X.wish E) pins σ H s):Inv X pins σ H s := ⟨I.ok.unwish,I.os,I.bare,I.base,I.loc,I.cell,I.free,I.freeC,I.pin,I.hok,I.len⟩
theorem SP.unwish {D:Ends} {f:Flow} {s':Shared} (h:SP (X.wish E) pins D f s'):SP X pins D f s' := by
  cases f with
  | next => obtain ⟨σ',H',I,q⟩ := h; exact ⟨σ',H',I.unwish,q⟩
  | brk => obtain ⟨σ',H',I,q⟩ := h; exact ⟨σ',H',I.unwish,q⟩
  | cont => obtain ⟨σ',H',I,q⟩ := h; exact ⟨σ',H',I.unwish,q⟩
  | ret u => obtain ⟨v,σ',H',I,r,q⟩ := h; exact ⟨v,σ',H',I.unwish,r,q⟩
theorem PE.nox {e:Expr} {t:TE} (h:PE X.nox e t):PE X e t := fun pins s σ H Q I hw =>
  wpAny_mono (h pins s σ H Q (I.wish _) hw) (fun _ _ ⟨v,H',I',r,q⟩ => ⟨v,H',I'.unwish,r,q⟩) fun _ _ z => False.elim z
theorem PT.nox {e:Expr} {t:TT} (h:PT X.nox e t):PT X e t := fun pins s σ H Q I hw =>
  wpAny_mono (h pins s σ H Q (I.wish _) hw) (fun _ _ ⟨H',I',q⟩ => ⟨H',I'.unwish,q⟩) fun _ _ z => False.elim z
theorem PSs.nox {st:List Stmt} {t:TS} (h:PSs X.nox st t):PSs X st t := fun pins s σ H D I hw =>
  wpAny_mono (h pins s σ H D (I.wish _) hw) (fun _ _ q => q.unwish) fun _ _ z => False.elim z
end
section
variable {X:Cx} {st:Stmt} {xN:List Stmt} {t u:TS} {e:Expr} {te:TE} {pos:Pos}
noncomputable def zaT:TS := fun D σ H => D.nx σ H
noncomputable def zdg (t u:TS):TS := fun D σ H => t { D with nx := u D } σ H
theorem zL:PSs X [] zaT := fun _ _ σ H _ I h => wpAny_execs_nil ⟨σ,H,I,h⟩
theorem zc (h1:PS X st t) (h2:PSs X xN u):PSs X (st :: xN) (zdg t u) := by
  intro pins s σ H D I h
  refine wpAny_execs_cons (thn (h1 pins s σ H { D with nx := u D } I h) fun f s1 q => ?_)
  cases f with
  | next =>
    obtain ⟨σ',H',I',q⟩ := q
    exact h2 pins s1 σ' H' D I' q
  | ret v => exact q
  | brk => exact q
  | cont => exact q
theorem zd (h1:PS X st t):PSs X [st] t := by
  intro pins s σ H D I h
  refine wpAny_execs_cons (thn (h1 pins s σ H D I h) fun f s1 q => ?_)
  cases f with
  | next => exact wpAny_execs_nil q
  | ret v => exact q
  | brk => exact q
  | cont => exact q
theorem Inv.quiet {pins:List (Addr × Obj)} {σ:St} {H:Hp} {s:Shared} (I:Inv X pins σ H s):interactive X.env = false := by simp [interactive,I.ok.kind]
noncomputable def zaU (te:TE):TS := fun D σ H => te σ H fun _ H1 => D.nx σ H1
theorem zr (he:PE X e te) (hs:swapsWith e none pos.line X.env = pure false := by rfl):PS X (.Expr e pos) (zaU te) := by
  intro pins s σ H D I h
  exact wpAny_Expr_any (thn (he pins s σ H _ I h) fun v s1 ⟨x,H1,I1,r1,q1⟩ => ⟨σ,H1,I1,q1⟩) I.quiet hs
noncomputable def zdh (te:TE):TS := fun D σ H => te σ H D.rt
theorem zC (he:PE X e te):PS X (.Return (some e) pos) (zdh te) := by
  intro pins s σ H D I h
  exact wpAny_Return_some (thn (he pins s σ H _ I h) fun v s1 ⟨x,H1,I1,r1,q1⟩ => ⟨x,σ,H1,I1,r1,q1⟩)
noncomputable def zdi (c:TT) (t u:TS):TS := fun D σ H => c σ H fun b H1 => if b = true then t D σ H1 else u D σ H1
theorem zB {c:Expr} {a b:List Stmt} {tc:TT} (hc:PT X c tc) (ha:PSs X a t) (hb:PSs X b u):PS X (.If c a b pos) (zdi tc t u) := by
  intro pins s σ H D I h
  refine wpAny_If (thn (hc pins s σ H _ I h) fun d s1 ⟨H1,I1,q1⟩ => ?_)
  cases d with
  | true => exact ha pins s1 σ H1 D I1 q1
  | false => exact hb pins s1 σ H1 D I1 q1
noncomputable def Ja:TS := fun _ _ _ => False
theorem Ki:PS X st Ja := fun _ _ _ _ _ _ h => h.elim
end
noncomputable abbrev TG := V → St → Hp → (St → Hp → Prop) → Prop
noncomputable abbrev TGs := List V → St → Hp → (St → Hp → Prop) → Prop
noncomputable def PG (X:Cx) (target:Expr) (t:TG):Prop :=
  ∀ (pins:List (Addr × Obj)) (s:Shared) (σ:St) (H:Hp) (v:V) (u:Value) (Q:St → Hp → Prop),Inv X pins σ H s → RelV v u → t v σ H Q →
    wpAny (model X.prog X.w) X.A (assign target X.env u) (fun _ s' => ∃ σ' H',Inv X pins σ' H' s' ∧ Q σ' H') X.xe s
noncomputable def PGs (X:Cx) (ts:List Expr) (t:TGs):Prop :=
  ∀ (pins:List (Addr × Obj)) (s:Shared) (σ:St) (H:Hp) (vs:List V) (us:List Value) (Q:St → Hp → Prop),Inv X pins σ H s → Vals vs us → t vs σ H Q →
    wpAny (model X.prog X.w) X.A (assignInOrder ((assignEach ts X.env).map (·.2)) us) (fun _ s' => ∃ σ' H',Inv X pins σ' H' s' ∧ Q σ' H') X.xe s
noncomputable abbrev Kj := V → V → V → Hp → (Hp → Prop) → Prop
noncomputable def zdj (X:Cx) (t:Kj):Prop :=
  ∀ (pins:List (Addr × Obj)) (s:Shared) (σ:St) (H:Hp) (o i v:V) (ov iv u:Value) (Q:Hp → Prop),Inv X pins σ H s → RelV o ov → RelV i iv → RelV v u → t o i v H Q →
    wpAny (model X.prog X.w) X.A (setItem ov iv u) (fun _ s' => ∃ H',Inv X pins σ H' s' ∧ Q H') X.xe s
section
variable {X:Cx} {pos:Pos}
noncomputable def kL (i:Nat):TG := fun v σ H Q => Q (σ.set i (some v)) H
theorem zM {i:Nat} {x:Str} (hN:X.N.Nodup) (hi:X.N[i]? = some x) (hx:Loc X.env.scope x) (hf:X.fn x = true ∨ X.env.scope.names.lookup x = some .local := by first | exact .inl rfl | exact .inr rfl | assumption):PG X (.Name x pos) (kL i) := by
  intro pins s σ H v u Q I r h
  exact wpAny_assign_Name (vS I hN hi hx r (fun s' I' => ⟨_,H,I',h⟩) hf)
noncomputable def zdk:TGs := fun vs σ H Q => vs = [] ∧ Q σ H
noncomputable def zaV (t:TG) (u:TGs):TGs := fun vs σ H Q => ∃ v r,vs = v :: r ∧ t v σ H fun σ' H' => u r σ' H' Q
theorem ud:PGs X [] zdk := by
  intro pins s σ H vs us Q I r h
  obtain ⟨e,h⟩ := h
  subst e
  cases r
  exact assignInOrder_nil ⟨σ,H,I,h⟩
theorem yL {e:Expr} {es:List Expr} {t:TG} {u:TGs} (h1:PG X e t) (h2:PGs X es u)
    (hs:(assignEach (e :: es) X.env).map (·.2) = assign e X.env :: (assignEach es X.env).map (·.2) := by rfl):PGs X (e :: es) (zaV t u) := by
  intro pins s σ H vs us Q I r h
  obtain ⟨v,vr,e1,h⟩ := h
  subst e1
  cases r with
  | cons r rr =>
    rw [hs]
    refine assignInOrder_cons (thn (h1 pins s σ H _ _ _ I r h) fun _ s1 ⟨σ1,H1,I1,q1⟩ => ?_)
    exact h2 pins s1 σ1 H1 _ _ Q I1 rr q1
noncomputable def Kk (K:PySem.W.Frag) (n:Nat) (t:TGs):TG := fun v σ H Q => ∃ a xs,v = .ref a ∧ SqT K H a xs ∧ xs.length = n ∧ t xs σ H Q
theorem zdl {es:List Expr} {k:Nat} {t:TGs} {n:Nat} (hc:X.calm = true) (h:PGs X es t)
    (hn:(assignEach es X.env).length = n := by rfl) (hst:(assignEach es X.env).findIdx? (·.1) = none := by rfl):PG X (.Tuple es k pos) (Kk X.K n t) := by
  intro pins s σ H v u Q I r hw
  obtain ⟨a,xs,e1,hq,hl,hw⟩ := hw
  subst e1
  cases r
  obtain ⟨its,rv,ht,hz⟩ := I.tuple hq
  refine assign_Tuple_tuple (I.ok.hd hc) ht (by simp [hn,← hl,rv.length]) hst fun h' hx => ?_
  have I1:Inv X pins σ H { s with heap := h' } := I.kept (t' := s.toks) fun b o e => hx b o (Nat.ne_of_lt (Heap.lt_size e)) e
  exact h pins _ σ H xs _ Q I1 (by simpa using rv) hw
noncomputable def zdm (to ti:TE) (t:Kj):TG := fun v σ H Q => to σ H fun o H1 => ti σ H1 fun i H2 => t o i v H2 fun H3 => Q σ H3
theorem Jb {o i:Expr} {to ti:TE} {t:Kj} (ho:PE X o to) (hi:PE X i ti) (hs:zdj X t)
    (ha:∀ v,assign (.Subscript o i pos) X.env v = (do
      let ov ← holding [v] (eval o X.env)
      let iv ← holding [v,ov] (eval i X.env)
      standAt pos
      holding [v,ov,iv] (setItem ov iv v)
      release [v,ov,iv] []) := by intro _; rfl):PG X (.Subscript o i pos) (zdm to ti t) := by
  intro pins s σ H v u Q I r h
  rw [ha]
  refine wpAny_bind (wpAny_holding (thn (ho pins s σ H _ I h) fun ov s1 ⟨x,H1,I1,r1,q1⟩ => ?_))
  refine wpAny_bind (wpAny_holding (thn (hi pins s1 σ H1 _ I1 q1) fun iv s2 ⟨y,H2,I2,r2,q2⟩ => ?_))
  refine wpAny_bind (wpAny_standAt (wpAny_bind (wpAny_holding (thn (hs pins s2 σ H2 x y v ov iv u _ I2 r1 r2 r q2) fun _ s3 ⟨H3,I3,q3⟩ => ?_))))
  exact wpAny_release ⟨σ,H3,I3,q3⟩
noncomputable def XA (te:TE) (g:TG):TS := fun D σ H => te σ H fun x H1 => g x σ H1 D.nx
theorem qT {tg e:Expr} {te:TE} {g:TG} (he:PE X e te) (hg:PG X tg g) (hs:swapsWithSole [tg] e pos.line X.env = pure false := by rfl) (hw:swappedStores [tg] e X.env = pure none := by rfl)
    (h1:(assignEach [tg] X.env).map (·.2) = [assign tg X.env] := by rfl):PS X (.Assign [tg] e pos) (XA te g) := by
  intro pins s σ H D I h
  refine wpAny_Assign_stores (thn (he pins s σ H _ I h) fun v s1 ⟨x,H1,I1,r1,q1⟩ => ?_) hs hw
  rw [h1]
  exact thn (hg pins s1 σ H1 x v _ I1 r1 q1) fun _ s2 q => q
theorem zD {i:Nat} {x:Str} {e:Expr} {te:TE} {pos':Pos} (hN:X.N.Nodup) (hi:X.N[i]? = some x) (hx:Loc X.env.scope x) (he:PE X e te) (hs:swapsWith e (some (.Name x pos')) pos.line X.env = pure false := by rfl) (hf:X.fn x = true ∨ X.env.scope.names.lookup x = some .local := by first | exact .inl rfl | exact .inr rfl | assumption) :
    PS X (.Assign [.Name x pos'] e pos) (XA te (kL i)) := by
  intro pins s σ H D I h
  refine wpAny_Assign_Name (thn (he pins s σ H _ I h) fun v s1 ⟨y,H1,I1,r1,q1⟩ => ?_) hs
  exact vS I1 hN hi hx r1 (fun s2 I2 => ⟨_,H1,I2,q1⟩) hf
noncomputable def zdn (i j:Nat) (ta:TA):TS := fun D σ H => ta σ H fun vs H1 => ∃ v w,vs = [v,w] ∧ D.nx ((σ.set i (some v)).set j (some w)) H1
theorem XB {i j:Nat} {x y:Str} {a b:Expr} {ta:TA} {px py pt:Pos} {kt k2 pt2} (hc:X.calm = true) (hN:X.N.Nodup) (hi:X.N[i]? = some x) (hj:X.N[j]? = some y) (hij:i ≠ j)
    (hx:X.env.scope.names.lookup x = some .local) (hy:X.env.scope.names.lookup y = some .local) (ha:PA X [a,b] ta)
    (hw:swappedStores [.Tuple [.Name x px,.Name y py] kt pt] (.Tuple [a,b] k2 pt2) X.env = pure (some [x,y]))
    (hs:swapsWithSole [.Tuple [.Name x px,.Name y py] kt pt] (.Tuple [a,b] k2 pt2) pos.line X.env = pure false := by rfl) :
    PS X (.Assign [.Tuple [.Name x px,.Name y py] kt pt] (.Tuple [a,b] k2 pt2) pos) (zdn i j ta) := by
  intro pins s σ H D I h
  rw [exec_Assign_arm]
  refine wpAny_bind (wpAny_standAt ?_)
  rw [hs]
  refine wpAny_bind (wpAny_pure ?_)
  rw [if_neg (by decide)]
  refine wpAny_bind (Tuple_ (thn (ha _ pins s σ H _ I h) fun us s1 ⟨vs,H1,I1,r1,q1⟩ => ?_))
  obtain ⟨v,w,e1,q1⟩ := q1
  subst e1
  obtain ⟨u1,u2,rfl,rv,rw'⟩:∃ u1 u2,us = [u1,u2] ∧ RelV v u1 ∧ RelV w u2 := by
    cases r1 with
    | cons p q =>
      cases q with
      | cons p' q' =>
        cases q'
        exact ⟨_,_,rfl,p,p'⟩
  refine wpAny_newObj_type ?_ (by show 2 ≤ sizeLine; decide)
  have I2:Inv X pins σ H1 { s1 with heap := s1.heap.push { cls := .type "tuple",data := .seq [u1,u2].toArray } } := I1.kept (t' := s1.toks) fun b o e => Heap.get?_push_of_some _ e
  rw [hw]
  refine wpAny_bind (wpAny_pure ?_)
  show wpAny (model X.prog X.w) X.A (do rule "assign.swapped-stores"; let items ← unpackItems (.ref s1.heap.objs.size) 2 none; assignInOrder [fun v => bindName X.env y v,fun v => bindName X.env x v] items.reverse; pure Flow.next) _ _ _
  refine wpAny_bind (wpAny_rule (wpAny_bind (unpackItems_tuple (items := #[u1,u2]) (I.ok.hd hc) (IsTup.new s1.heap _) fun h' hx' => ?_)))
  have I3 := I2.kept (h' := h') (t' := s1.toks) fun b o e => hx' b o (Nat.ne_of_lt (Heap.lt_size e)) e
  show wpAny _ _ (assignInOrder [fun v => bindName X.env y v,fun v => bindName X.env x v] [u2,u1] >>= fun _ => pure Flow.next) _ _ _
  refine wpAny_bind (assignInOrder_cons (wpAny_bindName (vS I3 hN hj (.inl hy) rw' (fun s2 I4 => ?_) (.inr hy))))
  refine assignInOrder_cons (wpAny_bindName (vS I4 hN hi (.inl hx) rv (fun s3 I5 => assignInOrder_nil (wpAny_pure ?_)) (.inr hx)))
  rw [List.set_comm _ _ (Ne.symm hij)] at I5
  exact ⟨_,H1,I5,q1⟩
end
section
variable {X:Cx} {pos:Pos}
end
structure It where
  go:Nat → Hp → Prop
  yld:Nat → Hp → V → Hp → Prop
  stop:Nat → Hp → Prop
noncomputable def FpOk (X:Cx) (pins:List (Addr × Obj)) (H:Hp) (b:Addr):Prop :=
  H b = none ∧ b ≠ X.env.locals ∧ b ∉ X.fs ∧ (b ∈ X.ex ∨ X.s₀.heap.objs.size ≤ b) ∧ (∀ x c,X.env.cells.lookup x = some c → c ≠ b) ∧ ∀ p ∈ X.pn ++ pins,p.1 ≠ b
theorem Inv.fpOk {X:Cx} {pins:List (Addr × Obj)} {σ:St} {H H':Hp} {s:Shared} {b:Addr} (I:Inv X pins σ H s) (hb:s.heap.objs.size ≤ b) (hn:H' b = none):FpOk X pins H' b := by
  refine ⟨hn,Nat.ne_of_gt (Nat.lt_of_lt_of_le I.lt hb),I.nofs hb,.inr (Nat.le_trans I.sz hb),fun x c e z => ?_,fun p hp z => ?_⟩
  · obtain ⟨v,q⟩ := I.cell x c e
    exact absurd (Nat.lt_of_lt_of_le q.lt (by rw [z]; exact hb)) (Nat.lt_irrefl _)
  · exact absurd (Nat.lt_of_lt_of_le (Heap.lt_size (I.pin p hp).1) (by rw [z]; exact hb)) (Nat.lt_irrefl _)
structure Turn (P:Program) (w:World) (K:PySem.W.Frag) (tg:Expr) (J:It) (fp:List Addr) (it:Addr) (tn:Nat → Heap → Prop):Prop where
  mem:it ∈ fp
  obj:∀ i h,tn i h → ∀ b ∈ fp,∃ o,h.get? b = some o ∧ ∀ v,o.data ≠ .cell v
  keep:∀ i h h',tn i h → (∀ b ∈ fp,∀ o,h.get? b = some o → h'.get? b = some o) → tn i h'
  item:∀ (X:Cx),X.prog = P → X.w = w → X.K = K → X.calm = true → ∀ (i:Nat) (pins:List (Addr × Obj)) (s:Shared) (σ:St) (H:Hp) (E:Value → Shared → Prop),Inv X pins σ H s → (∀ b ∈ fp,FpOk X pins H b) → tn i s.heap → J.go i H →
    wpAny (model P w) X.A (pyNext (.ref it)) (fun r s1 => ∃ u,r = some u ∧
      wpAny (model P w) X.A (letOwnedTupleGo tg (.ref it) u) (fun _ s2 => ∃ x H',Inv X pins σ H' s2 ∧ RelV x u ∧ J.yld i H x H' ∧ tn (i + 1) s2.heap ∧ ∀ b ∈ fp,H' b = none) E s1) E s
  done:∀ (X:Cx),X.prog = P → X.w = w → X.K = K → X.calm = true → ∀ (i:Nat) (pins:List (Addr × Obj)) (s:Shared) (σ:St) (H:Hp) (E:Value → Shared → Prop),Inv X pins σ H s → (∀ b ∈ fp,FpOk X pins H b) → tn i s.heap → J.stop i H →
    wpAny (model P w) X.A (pyNext (.ref it)) (fun r s1 => r = none ∧ Inv X pins σ H s1) E s
  self:∀ (A:Around) (i:Nat) (s:Shared) (Q:Value → Shared → Prop) (E:Value → Shared → Prop),tn i s.heap → Q (.ref it) s → wpAny (model P w) A (pyIter (.ref it)) Q E s
noncomputable abbrev TI := St → Hp → (It → Hp → Prop) → Prop
noncomputable def PIE (X:Cx) (pins:List (Addr × Obj)) (σ:St) (tg:Expr) (R:It → Hp → Prop) (itv:Value) (s2:Shared):Prop :=
  ∃ (it:Addr) (fp:List Addr) (tn:Nat → Heap → Prop) (J:It) (H':Hp),itv = .ref it ∧ Inv X pins σ H' s2 ∧ Turn X.prog X.w X.K tg J fp it tn ∧ tn 0 s2.heap ∧ (∀ b ∈ fp,FpOk X pins H' b) ∧ R J H'
noncomputable def PI (X:Cx) (tg iter:Expr) (wi:TI):Prop :=
  ∀ (pins:List (Addr × Obj)) (s:Shared) (σ:St) (H:Hp) (R:It → Hp → Prop),Inv X pins σ H s → wi σ H R →
    wpAny (model X.prog X.w) X.A (eval iter X.env) (fun v s1 => wpAny (model X.prog X.w) X.A (pyIter v) (PIE X pins σ tg R) X.xe s1) X.xe s
theorem Xg {M:Model} {A:Around} {E:Value → Shared → Prop} {s:Shared} {tg:Expr} {it:Addr} {u:Value} {o:Obj} {n:String} {vs:Array Value} {Q:Unit → Shared → Prop} (ho:s.heap.get? it = some o) (hc:o.cls = .type n) (hd:o.data = .fields vs)
    (hn:["enumerate","zip","dict_itemiterator","dict_reverseitemiterator","odict_iterator","itertools.zip_longest","itertools.pairwise"].contains n = false) (hQ:Q () s):wpAny M A (letOwnedTupleGo tg (.ref it) u) Q E s := by
  unfold letOwnedTupleGo
  cases tg <;> first
    | exact wpAny_pure hQ
    | (cases u <;> first
        | exact wpAny_pure hQ
        | (refine wpAny_bind (wpAny_load ho ?_)
           rw [hc,hd]
           show wpAny M A (if (["enumerate","zip","dict_itemiterator","dict_reverseitemiterator","odict_iterator","itertools.zip_longest","itertools.pairwise"].contains n && vs[0]? == some (rawInt _)) = true then _ else _) Q E s
           rw [if_neg (by intro h; rw [hn,Bool.false_and] at h; cases h)]
           exact wpAny_pure hQ))
noncomputable def Itl (K:PySem.W.Frag) (a:Addr):It :=
  ⟨fun i H => ∃ xs x,SqL K H a xs ∧ xs[i]? = some x,fun i H x H' => H' = H ∧ ∀ xs,SqL K H a xs → xs[i]? = some x,fun i H => ∃ xs,SqL K H a xs ∧ xs.length ≤ i⟩
noncomputable def Itt (K:PySem.W.Frag) (a:Addr):It :=
  ⟨fun i H => ∃ xs x,SqT K H a xs ∧ xs[i]? = some x,fun i H x H' => H' = H ∧ ∀ xs,SqT K H a xs → xs[i]? = some x,fun i H => ∃ xs,SqT K H a xs ∧ xs.length ≤ i⟩
noncomputable def Itr (lo:Int) (n:Nat):It := ⟨fun i _ => i < n,fun i H x H' => H' = H ∧ x = .int (lo + i),fun i _ => n ≤ i⟩
theorem Jc {P:Program} {w:World} {K:PySem.W.Frag} {tg:Expr} (a it:Addr):Turn P w K tg (Itl K a) [it] it (fun i h => h.IsListIter it a i) where
  mem := by simp
  obj := fun i h st b hb => by
    have e:b = it := by simpa using hb
    subst e
    obtain ⟨o,e,c,d⟩ := st
    exact ⟨o,e,fun v z => by rw [d] at z; cases z⟩
  keep := fun i h h' st k => st.at fun o e => k it (by simp) o e
  item := by
    intro X hP hw hK hc i pins s σ H E I hf st hg
    subst hP hw hK
    obtain ⟨xs,x,hq,hx⟩ := hg
    obtain ⟨its,rv,p,hz⟩ := I.list hq
    obtain ⟨u,hu,ru⟩ := rv.get hx
    obtain ⟨f0,f1,f2,f3,f4,f5⟩ := hf it (by simp)
    refine wpAny_pyNext_list_item st p.isList (x := u) (by simpa using hu) fun h' st' sb => ?_
    have I1:Inv X pins σ H { s with heap := h' } := I.turned (t' := s.toks) (fun b o hb e => (sb.2 b hb).trans e) f0 f1 f3 f4 f5
    obtain ⟨o,e,c,d⟩ := id st'
    exact ⟨u,rfl,Xg (s := { s with heap := h' }) e c d (by decide) ⟨x,H,I1,ru,⟨rfl,fun ys hy => by rw [I.list_inj hy hq]; exact hx⟩,st',fun b hb => (hf b hb).1⟩⟩
  done := by
    intro X hP hw hK hc i pins s σ H E I hf st hg
    subst hP hw hK
    obtain ⟨xs,hq,hx⟩ := hg
    obtain ⟨its,rv,p,hz⟩ := I.list hq
    obtain ⟨f0,f1,f2,f3,f4,f5⟩ := hf it (by simp)
    have hl := rv.length
    exact wpAny_pyNext_list_end (I.ok.hd hc) st p.isList (by simp; omega) fun h' eb => ⟨rfl,I.turned (t' := s.toks) (fun b o hb e => eb b o hb e) f0 f1 f3 f4 f5⟩
  self := fun _ _ _ _ _ st h => wpAny_pyIter_listiter st h
theorem UX {P:Program} {w:World} {K:PySem.W.Frag} {tg:Expr} (a it:Addr):Turn P w K tg (Itt K a) [it] it (fun i h => h.IsTupleIter it a i) where
  mem := by simp
  obj := fun i h st b hb => by
    have e:b = it := by simpa using hb
    subst e
    obtain ⟨o,e,c,d⟩ := st
    exact ⟨o,e,fun v z => by rw [d] at z; cases z⟩
  keep := fun i h h' st k => st.at fun o e => k it (by simp) o e
  item := by
    intro X hP hw hK hc i pins s σ H E I hf st hg
    subst hP hw hK
    obtain ⟨xs,x,hq,hx⟩ := hg
    obtain ⟨its,rv,p,hz⟩ := I.tuple hq
    obtain ⟨u,hu,ru⟩ := rv.get hx
    obtain ⟨f0,f1,f2,f3,f4,f5⟩ := hf it (by simp)
    refine wpAny_pyNext_tuple_item st (show s.heap.IsTuple a its.toArray from p) (x := u) (by simpa using hu) fun h' st' sb => ?_
    have I1:Inv X pins σ H { s with heap := h' } := I.turned (t' := s.toks) (fun b o hb e => (sb.2 b hb).trans e) f0 f1 f3 f4 f5
    obtain ⟨o,e,c,d⟩ := id st'
    exact ⟨u,rfl,Xg (s := { s with heap := h' }) e c d (by decide) ⟨x,H,I1,ru,⟨rfl,fun ys hy => by rw [I.tuple_inj hy hq]; exact hx⟩,st',fun b hb => (hf b hb).1⟩⟩
  done := by
    intro X hP hw hK hc i pins s σ H E I hf st hg
    subst hP hw hK
    obtain ⟨xs,hq,hx⟩ := hg
    obtain ⟨its,rv,p,hz⟩ := I.tuple hq
    obtain ⟨f0,f1,f2,f3,f4,f5⟩ := hf it (by simp)
    have hl := rv.length
    exact wpAny_pyNext_tuple_end (I.ok.hd hc) st (show s.heap.IsTuple a its.toArray from p) (by simp; omega) fun h' eb => ⟨rfl,I.turned (t' := s.toks) (fun b o hb e => eb b o hb e) f0 f1 f3 f4 f5⟩
  self := fun _ _ _ _ _ st h => wpAny_pyIter_tupleiter st h
theorem UY {P:Program} {w:World} {K:PySem.W.Frag} {tg:Expr} (it:Addr) (lo:Int) (n:Nat):Turn P w K tg (Itr lo n) [it] it (fun i h => IsRangeIter h it (lo + (i:Nat) * 1) ((n:Int) - (i:Nat)) 1) where
  mem := by simp
  obj := fun i h st b hb => by
    have e:b = it := by simpa using hb
    subst e
    exact ⟨_,st,fun v z => by
      have z':Data.fields _ = Data.cell v := z
      cases z'⟩
  keep := fun i h h' st k => k it (by simp) _ st
  item := by
    intro X hP hw hK hc i pins s σ H E I hf st hg
    subst hP hw hK
    obtain ⟨f0,f1,f2,f3,f4,f5⟩ := hf it (by simp)
    have W := Walks.range (prog := X.prog) (w := X.w) (I.ok.hd hc) it lo 1 n
    refine W.item i s _ _ hg st fun v h' tk hv st' kk => ?_
    obtain ⟨t,rfl⟩ := hv
    have I1:Inv X pins σ H { s with heap := h',toks := tk } := I.turned (fun b o hb e => kk b o (by simpa using hb) e) f0 f1 f3 f4 f5
    refine ⟨_,rfl,Xg (s := { s with heap := h',toks := tk }) (n := "range_iterator") st' rfl rfl (by decide) ⟨.int (lo + i),H,I1,⟨t,?_⟩,⟨rfl,rfl⟩,st',fun b hb => (hf b hb).1⟩⟩
    rw [Int.mul_one]
  done := by
    intro X hP hw hK hc i pins s σ H E I hf st hg
    subst hP hw hK
    obtain ⟨f0,f1,f2,f3,f4,f5⟩ := hf it (by simp)
    exact wpAny_pyNext_range_end (I.ok.hd hc) st (by have:n ≤ i := hg; omega) fun h' eb => ⟨rfl,I.turned (t' := s.toks) (fun b o hb e => eb b o hb e) f0 f1 f3 f4 f5⟩
  self := fun _ _ _ _ _ st h => wpAny_pyIter_rangeiter st h
end L2
namespace L2
open PySem PySem.Spec PyProof.Rows
section
variable {X:Cx} {tg:Expr}
noncomputable def UZ (K:PySem.W.Frag) (tl:TE):TI := fun σ H R => tl σ H fun x H1 => ∃ a,x = .ref a ∧ (∃ xs,SqL K H1 a xs) ∧ R (Itl K a) H1
noncomputable def Kl (K:PySem.W.Frag) (tl:TE):TI := fun σ H R => tl σ H fun x H1 => ∃ a,x = .ref a ∧ (∃ xs,SqT K H1 a xs) ∧ R (Itt K a) H1
theorem zbO {l:Expr} {tl:TE} (hl:PE X l tl):PI X tg l (UZ X.K tl) := by
  intro pins s σ H R I h
  refine thn (hl pins s σ H _ I h) fun v s1 ⟨x,H1,I1,r1,q1⟩ => ?_
  obtain ⟨a,e,⟨xs,hq⟩,q⟩ := q1
  subst e
  cases r1
  obtain ⟨its,rv,p,hz⟩ := I1.list hq
  refine wpAny_pyIter_list p.isList ?_
  refine ⟨s1.heap.objs.size,[s1.heap.objs.size],_,_,H1,rfl,I1.kept (t' := s1.toks) fun b o e => Heap.get?_push_of_some _ e,Jc a _,⟨_,Heap.get?_push_size _ rfl,rfl,rfl⟩,fun b hb => ?_,q⟩
  have e:b = s1.heap.objs.size := by simpa using hb
  subst e
  exact I1.fpOk (Nat.le_refl _) (I1.hok.fresh (Nat.le_refl _))
theorem zdo {l:Expr} {tl:TE} (hl:PE X l tl):PI X tg l (Kl X.K tl) := by
  intro pins s σ H R I h
  refine thn (hl pins s σ H _ I h) fun v s1 ⟨x,H1,I1,r1,q1⟩ => ?_
  obtain ⟨a,e,⟨xs,hq⟩,q⟩ := q1
  subst e
  cases r1
  obtain ⟨its,rv,p,hz⟩ := I1.tuple hq
  refine wpAny_pyIter_tuple (show s1.heap.IsTuple a its.toArray from p) ?_
  refine ⟨s1.heap.objs.size,[s1.heap.objs.size],_,_,H1,rfl,I1.kept (t' := s1.toks) fun b o e => Heap.get?_push_of_some _ e,UX a _,⟨_,Heap.get?_push_size _ rfl,rfl,rfl⟩,fun b hb => ?_,q⟩
  have e:b = s1.heap.objs.size := by simpa using hb
  subst e
  exact I1.fpOk (Nat.le_refl _) (I1.hok.fresh (Nat.le_refl _))
theorem XC {pins:List (Addr × Obj)} {σ:St} {H:Hp} {s:Shared} {R:It → Hp → Prop} {E:Value → Shared → Prop} {lo hi:Int} {t u v:Tok} {tk:Nat} (I:Inv X pins σ H s) (h1:-(2 ^ 62) ≤ lo) (h2:lo < 2 ^ 62) (h3:-(2 ^ 62) ≤ hi) (h4:hi < 2 ^ 62)
    (q:R (Itr lo (hi - lo).toNat) H):wpAny (model X.prog X.w) X.A (pyIter (.ref s.heap.objs.size)) (PIE X pins σ tg R) E { s with heap := s.heap.push { cls := .type "range",data := .fields #[.int lo t,.int hi u,.int 1 v] },toks := tk } := by
  refine wpAny_pyIter_range (IsRange.new ..) (small_one h1 h2 h3 h4) ?_
  have I1:Inv X pins σ H { s with heap := s.heap.push { cls := .type "range",data := .fields #[.int lo t,.int hi u,.int 1 v] },toks := tk } := I.kept fun b o e => Heap.get?_push_of_some _ e
  refine ⟨(s.heap.push { cls := .type "range",data := .fields #[.int lo t,.int hi u,.int 1 v] }).objs.size,[(s.heap.push { cls := .type "range",data := .fields #[.int lo t,.int hi u,.int 1 v] }).objs.size],_,_,H,rfl,
    I1.kept (t' := tk) fun b o e => Heap.get?_push_of_some _ e,UY _ lo (hi - lo).toNat,?_,fun b hb => ?_,q⟩
  · have e1:lo + ((0:Nat):Int) * 1 = lo := by simp
    have e2:(((hi - lo).toNat:Nat):Int) - ((0:Nat):Int) = Builtin.Range.rangeSize lo hi 1 := by rw [rangeSize_one]; split <;> omega
    show IsRangeIter _ _ (lo + ((0:Nat):Int) * 1) ((((hi - lo).toNat:Nat):Int) - ((0:Nat):Int)) 1
    rw [e1,e2]
    exact Heap.get?_push_size _ rfl
  · have e:b = (s.heap.push { cls := .type "range",data := .fields #[.int lo t,.int hi u,.int 1 v] }).objs.size := by simpa using hb
    subst e
    exact I1.fpOk (Nat.le_refl _) (I1.hok.fresh (Nat.le_refl _))
noncomputable def zaW (ta:TA):TI := fun σ H R => ta σ H fun vs H1 => ∃ j:Int,vs = [.int j] ∧ -(2 ^ 62) ≤ j ∧ j < 2 ^ 62 ∧ R (Itr 0 j.toNat) H1
noncomputable def zaX (ta:TA):TI := fun σ H R => ta σ H fun vs H1 => ∃ i j:Int,vs = [.int i,.int j] ∧ (-(2 ^ 62) ≤ i ∧ i < 2 ^ 62 ∧ -(2 ^ 62) ≤ j ∧ j < 2 ^ 62) ∧ R (Itr i (j - i).toNat) H1
theorem uw {a:Expr} {ta:TA} {p pos:Pos} (hg:Gl X "range") (hm:X.mg "range" = none) (ha:PA X [a] ta) (hs:starEach [a] X.env = [(false,eval a X.env)] := by rfl):PI X tg (.Call (.Name "range" p) [a] [] pos) (zaW ta) := by
  intro pins s σ H R I h
  refine Call_ (vY I hg hm boot_range (PyProof.Rows.callWith_type1 (thn (ha pos pins s σ H _ I h) fun us s1 ⟨vs,H1,I1,r1,q1⟩ => ?_) hs rfl))
  obtain ⟨j,e,q1,q2,q⟩ := q1
  subst e
  cases r1 with
  | cons r rr =>
    cases rr
    obtain ⟨t,rfl⟩ := r
    exact call_range_1 (XC I1 (by omega) (by omega) q1 q2 (by simpa using q))
theorem Jd {a b:Expr} {ta:TA} {p pos:Pos} (hg:Gl X "range") (hm:X.mg "range" = none) (ha:PA X [a,b] ta) (hs:starEach [a,b] X.env = [(false,eval a X.env),(false,eval b X.env)] := by rfl) (hs2:starEach [b] X.env = [(false,eval b X.env)] := by rfl) :
    PI X tg (.Call (.Name "range" p) [a,b] [] pos) (zaX ta) := by
  intro pins s σ H R I h
  refine Call_ (vY I hg hm boot_range (PyProof.Rows.callWith_type1 (thn (ha pos pins s σ H _ I h) fun us s1 ⟨vs,H1,I1,r1,q1⟩ => ?_) (by rw [hs,hs2]) (by rw [hs2]; rfl)))
  obtain ⟨i,j,e,⟨q1,q2,q3,q4⟩,q⟩ := q1
  subst e
  cases r1 with
  | cons r rr =>
    cases rr with
    | cons r' rr =>
      cases rr
      obtain ⟨t,rfl⟩ := r
      obtain ⟨t',rfl⟩ := r'
      exact call_range_2 (XC I1 q1 q2 q3 q4 q)
noncomputable def zdp (wi:TI) (g:TG) (tb:TS):TS := fun D σ H => wi σ H fun J H1 => ∃ W:Nat → Nat → St → Hp → Prop,(∃ m,W 0 m σ H1) ∧ ∀ i m σ H,W i m σ H →
  (J.stop i H ∧ D.nx σ H) ∨ (J.go i H ∧ ∃ N:St → Hp → Prop,(∀ σ' H',N σ' H' → ∃ m',m' < m ∧ W (i + 1) m' σ' H') ∧ ∀ x H',J.yld i H x H' → g x σ H' fun σ2 H2 => tb { D with nx := N,ct := N,bk := D.nx } σ2 H2)
noncomputable def jW (fp:List Addr) (h:Heap):List (Addr × Obj) := fp.filterMap fun b => (h.get? b).map fun o => (b,o)
theorem uH {fp:List Addr} {h:Heap} {b:Addr} {o:Obj} (hb:b ∈ fp) (e:h.get? b = some o):(b,o) ∈ jW fp h := List.mem_filterMap.mpr ⟨b,hb,by rw [e]; rfl⟩
theorem Je {fp:List Addr} {h:Heap} {p:Addr × Obj} (hp:p ∈ jW fp h):p.1 ∈ fp ∧ h.get? p.1 = some p.2 := by
  obtain ⟨b,hb,e⟩ := List.mem_filterMap.mp hp
  cases q:h.get? b with
  | none => rw [q] at e; cases e
  | some o =>
    rw [q] at e
    have e':(b,o) = p := Option.some.inj e
    subst e'
    exact ⟨hb,q⟩
theorem Inv.pinned {pins:List (Addr × Obj)} {σ:St} {H:Hp} {s:Shared} {fp:List Addr} (I:Inv X pins σ H s) (hf:∀ b ∈ fp,FpOk X pins H b) (ho:∀ b ∈ fp,∃ o,s.heap.get? b = some o ∧ ∀ v,o.data ≠ .cell v):Inv X (pins ++ jW fp s.heap) σ H s :=
  I.pins_of fun p hp => (List.mem_append.mp hp).elim (fun z => I.pin p (List.mem_append_right _ z)) fun z => by
    obtain ⟨hb,e⟩ := Je z
    obtain ⟨f0,f1,f2,_⟩ := hf p.1 hb
    obtain ⟨o,e',d⟩ := ho p.1 hb
    rw [e] at e'; cases e'
    exact ⟨e,f0,f1,f2,d⟩
theorem Inv.unpinned {pins pl:List (Addr × Obj)} {σ:St} {H:Hp} {s:Shared} (I:Inv X (pins ++ pl) σ H s):Inv X pins σ H s := I.pins_of fun p hp => I.pin p (List.mem_append_right _ (List.mem_append_left _ hp))
theorem vZ {iter:Expr} {body:List Stmt} {wi:TI} {g:TG} {tb:TS} {pos:Pos} (hp:PassesOwn (model X.prog X.w) X.A X.env X.xe) (hc:X.calm = true) (hi:PI X tg iter wi) (hg:PG X tg g) (hb:PSs X body tb)
    (hs:∀ x,foldedSetIterable iter X.env x = pure x := by intro _; rfl):PS X (.For tg iter body [] pos) (zdp wi g tb) := by
  intro pins s σ H D I h
  refine wpAny_For (thn (hi pins s σ H _ I h) fun v s1 h1 => thn h1 fun itv s2 h2 => ?_) hs
  obtain ⟨it,fp,tn,J,H2,e,I2,T,st2,f2,W,⟨m0,w0⟩,turn⟩ := h2
  subst e
  have stat:∀ {H':Hp},(∀ b ∈ fp,H' b = none) → ∀ b ∈ fp,FpOk X pins H' b := fun hn b hb => ⟨hn b hb,(f2 b hb).2⟩
  refine codeAny_forLoop_any (fun n s' => ∃ i σ' H',Inv X pins σ' H' s' ∧ tn i s'.heap ∧ (∀ b ∈ fp,H' b = none) ∧ W i n σ' H') ?_ m0 ⟨0,σ,H2,I2,st2,fun b hb => (f2 b hb).1,w0⟩
  rintro n s3 ⟨i,σ3,H3,I3,st3,fr3,w3⟩
  rcases turn i n σ3 H3 w3 with ⟨stop,qn⟩ | ⟨go,N,hN,step⟩
  · refine wpAny_passesOwn hp (thn (T.done X rfl rfl rfl hc i pins s3 σ3 H3 X.xe I3 (stat fr3) st3 stop) fun r s4 ⟨hr,I4⟩ => ?_)
    subst hr
    exact wpAny_execs_nil ⟨σ3,H3,I4,qn⟩
  · refine wpAny_passesOwn hp (thn (T.item X rfl rfl rfl hc i pins s3 σ3 H3 X.xe I3 (stat fr3) st3 go) fun r s4 ⟨u,hr,h4⟩ => ?_)
    subst hr
    refine wpAny_passesOwn hp (thn h4 fun _ s5 ⟨x,H5,I5,r5,y5,st5,fr5⟩ => ?_)
    have I5' := I5.pinned (stat fr5) (T.obj _ _ st5)
    refine wpAny_passesOwn hp (thn (hg _ s5 σ3 H5 x u _ I5' r5 (step x H5 y5)) fun _ s6 ⟨σ6,H6,I6,q6⟩ => ?_)
    refine wpAny_passesOwn hp (thn (hb _ s6 σ6 H6 _ I6 q6) fun f s7 q7 => ?_)
    have again:∀ {σ7:St} {H7:Hp},Inv X (pins ++ jW fp s5.heap) σ7 H7 s7 → N σ7 H7 → ∃ m,m < n ∧ ∃ i σ' H',Inv X pins σ' H' s7 ∧ tn i s7.heap ∧ (∀ b ∈ fp,H' b = none) ∧ W i m σ' H' := fun {σ7 H7} I7 n7 => by
      obtain ⟨m',hm,w7⟩ := hN σ7 H7 n7
      refine ⟨m',hm,i + 1,σ7,H7,I7.unpinned,T.keep _ _ _ st5 fun b hb o e => (I7.pin (b,o) (List.mem_append_right _ (List.mem_append_right _ (uH hb e)))).1,fun b hb => ?_,w7⟩
      obtain ⟨o,e,d⟩ := T.obj _ _ st5 b hb
      exact (I7.pin (b,o) (List.mem_append_right _ (List.mem_append_right _ (uH hb e)))).2.1
    cases f with
    | next => obtain ⟨σ7,H7,I7,n7⟩ := q7; exact again I7 n7
    | cont => obtain ⟨σ7,H7,I7,n7⟩ := q7; exact again I7 n7
    | brk => obtain ⟨σ7,H7,I7,q7⟩ := q7; exact ⟨σ7,H7,I7.unpinned,q7⟩
    | ret v => obtain ⟨x7,σ7,H7,I7,r7,q7⟩ := q7; exact ⟨x7,σ7,H7,I7.unpinned,r7,q7⟩
end
theorem Km {K:PySem.W.Frag} {a:Addr} {xs:List V} {g:TG} {tb:TS} {D:Ends} {σ:St} {H:Hp} (Pv:Nat → St → Hp → Prop) (h0:Pv 0 σ H) (hl:∀ i σ H,i ≤ xs.length → Pv i σ H → SqL K H a xs)
    (hs:∀ i x σ H,xs[i]? = some x → Pv i σ H → g x σ H fun σ2 H2 => tb { D with nx := Pv (i + 1),ct := Pv (i + 1),bk := D.nx } σ2 H2) (hd:∀ σ H,Pv xs.length σ H → D.nx σ H) :
    ∃ W:Nat → Nat → St → Hp → Prop,(∃ m,W 0 m σ H) ∧ ∀ i m σ H,W i m σ H →
      ((Itl K a).stop i H ∧ D.nx σ H) ∨ ((Itl K a).go i H ∧ ∃ N:St → Hp → Prop,(∀ σ' H',N σ' H' → ∃ m',m' < m ∧ W (i + 1) m' σ' H') ∧ ∀ x H',(Itl K a).yld i H x H' → g x σ H' fun σ2 H2 => tb { D with nx := N,ct := N,bk := D.nx } σ2 H2) := by
  refine ⟨fun i m σ H => m = xs.length - i ∧ i ≤ xs.length ∧ Pv i σ H,⟨xs.length,by simp,Nat.zero_le _,h0⟩,?_⟩
  rintro i m σ H ⟨rfl,hi,p⟩
  have q := hl i σ H hi p
  by_cases hlt:i < xs.length
  · refine .inr ⟨⟨xs,xs[i],q,by simp [hlt]⟩,Pv (i + 1),fun σ' H' p' => ⟨xs.length - (i + 1),by omega,rfl,hlt,p'⟩,fun x H' y => ?_⟩
    obtain ⟨e,y⟩ := y
    subst e
    exact hs i x σ _ (y xs q) p
  · have e:i = xs.length := by omega
    subst e
    exact .inl ⟨⟨xs,q,Nat.le_refl _⟩,hd σ H p⟩
theorem zbP {K:PySem.W.Frag} {a:Addr} {xs:List V} {g:TG} {tb:TS} {D:Ends} {σ:St} {H:Hp} (Pv:Nat → St → Hp → Prop) (h0:Pv 0 σ H) (hl:∀ i σ H,i ≤ xs.length → Pv i σ H → SqT K H a xs)
    (hs:∀ i x σ H,xs[i]? = some x → Pv i σ H → g x σ H fun σ2 H2 => tb { D with nx := Pv (i + 1),ct := Pv (i + 1),bk := D.nx } σ2 H2) (hd:∀ σ H,Pv xs.length σ H → D.nx σ H) :
    ∃ W:Nat → Nat → St → Hp → Prop,(∃ m,W 0 m σ H) ∧ ∀ i m σ H,W i m σ H →
      ((Itt K a).stop i H ∧ D.nx σ H) ∨ ((Itt K a).go i H ∧ ∃ N:St → Hp → Prop,(∀ σ' H',N σ' H' → ∃ m',m' < m ∧ W (i + 1) m' σ' H') ∧ ∀ x H',(Itt K a).yld i H x H' → g x σ H' fun σ2 H2 => tb { D with nx := N,ct := N,bk := D.nx } σ2 H2) := by
  refine ⟨fun i m σ H => m = xs.length - i ∧ i ≤ xs.length ∧ Pv i σ H,⟨xs.length,by simp,Nat.zero_le _,h0⟩,?_⟩
  rintro i m σ H ⟨rfl,hi,p⟩
  have q := hl i σ H hi p
  by_cases hlt:i < xs.length
  · refine .inr ⟨⟨xs,xs[i],q,by simp [hlt]⟩,Pv (i + 1),fun σ' H' p' => ⟨xs.length - (i + 1),by omega,rfl,hlt,p'⟩,fun x H' y => ?_⟩
    obtain ⟨e,y⟩ := y
    subst e
    exact hs i x σ _ (y xs q) p
  · have e:i = xs.length := by omega
    subst e
    exact .inl ⟨⟨xs,q,Nat.le_refl _⟩,hd σ H p⟩
theorem Jf {lo:Int} {n:Nat} {g:TG} {tb:TS} {D:Ends} {σ:St} {H:Hp} (Pv:Nat → St → Hp → Prop) (h0:Pv 0 σ H)
    (hs:∀ i σ H,i < n → Pv i σ H → g (.int (lo + i)) σ H fun σ2 H2 => tb { D with nx := Pv (i + 1),ct := Pv (i + 1),bk := D.nx } σ2 H2) (hd:∀ σ H,Pv n σ H → D.nx σ H) :
    ∃ W:Nat → Nat → St → Hp → Prop,(∃ m,W 0 m σ H) ∧ ∀ i m σ H,W i m σ H →
      ((Itr lo n).stop i H ∧ D.nx σ H) ∨ ((Itr lo n).go i H ∧ ∃ N:St → Hp → Prop,(∀ σ' H',N σ' H' → ∃ m',m' < m ∧ W (i + 1) m' σ' H') ∧ ∀ x H',(Itr lo n).yld i H x H' → g x σ H' fun σ2 H2 => tb { D with nx := N,ct := N,bk := D.nx } σ2 H2) := by
  refine ⟨fun i m σ H => m = n - i ∧ i ≤ n ∧ Pv i σ H,⟨n,by simp,Nat.zero_le _,h0⟩,?_⟩
  rintro i m σ H ⟨rfl,hi,p⟩
  by_cases hlt:i < n
  · refine .inr ⟨hlt,Pv (i + 1),fun σ' H' p' => ⟨n - (i + 1),by omega,rfl,hlt,p'⟩,fun x H' y => ?_⟩
    obtain ⟨e,y⟩ := y
    subst e y
    exact hs i σ _ hlt p
  · have e:i = n := by omega
    subst e
    exact .inl ⟨Nat.le_refl _,hd σ H p⟩
end L2
namespace L2
open PySem PySem.Spec PyProof.Rows
noncomputable abbrev R2 := V → V → Hp → VK → Prop
noncomputable def OpR (X:Cx) (f:Value → Value → Sem Value) (r:R2):Prop :=
  ∀ (pins:List (Addr × Obj)) (s:Shared) (σ:St) (H:Hp) (x y:V) (v u:Value) (Q:VK),Inv X pins σ H s → RelV x v → RelV y u → r x y H Q →
    wpAny (model X.prog X.w) X.A (f v u) (EP X pins σ Q) X.xe s
noncomputable def UnR (X:Cx) (f:Value → Sem Value) (r:V → Hp → VK → Prop):Prop :=
  ∀ (pins:List (Addr × Obj)) (s:Shared) (σ:St) (H:Hp) (x:V) (v:Value) (Q:VK),Inv X pins σ H s → RelV x v → r x H Q →
    wpAny (model X.prog X.w) X.A (f v) (EP X pins σ Q) X.xe s
noncomputable def y9 (X:Cx) (f:Value) (r:List V → Hp → VK → Prop):Prop :=
  ∀ (pins:List (Addr × Obj)) (s:Shared) (σ:St) (H:Hp) (xs:List V) (us:List Value) (Q:VK),Inv X pins σ H s → Vals xs us → r xs H Q →
    wpAny (model X.prog X.w) X.A (call f us) (EP X pins σ Q) X.xe s
noncomputable def zfJ (X:Cx) (r:V → Hp → (Bool → Hp → Prop) → Prop):Prop :=
  ∀ (pins:List (Addr × Obj)) (s:Shared) (σ:St) (H:Hp) (x:V) (v:Value) (Q:Bool → Hp → Prop),Inv X pins σ H s → RelV x v → r x H Q →
    wpAny (model X.prog X.w) X.A (truthy v) (TP X pins σ Q) X.xe s
noncomputable def tOp (r:R2) (ta tb:TE):TE := fun σ H Q => ta σ H fun x H1 => tb σ H1 fun y H2 => r x y H2 Q
noncomputable def tUn (r:V → Hp → VK → Prop) (ta:TE):TE := fun σ H Q => ta σ H fun x H1 => r x H1 Q
noncomputable def rI (C:Int → Int → Prop) (g:Int → Int → V):R2 := fun x y H Q => ∃ i j,x = .int i ∧ y = .int j ∧ C i j ∧ Q (g i j) H
noncomputable def rI0 (g:Int → Int → V):R2 := fun x y H Q => ∃ i j,x = .int i ∧ y = .int j ∧ Q (g i j) H
noncomputable def rU (g:Int → V):V → Hp → VK → Prop := fun x H Q => ∃ i,x = .int i ∧ Q (g i) H
section
variable {X:Cx} {a b c:Expr} {ta tb tc:TE} {pos:Pos}
theorem Kn (ha:PE X a ta) (hb:PE X b tb) {pins:List (Addr × Obj)} {s:Shared} {σ:St} {H:Hp} {R:V → V → Hp → Prop} (I:Inv X pins σ H s)
    (h:ta σ H fun x H1 => tb σ H1 fun y H2 => R x y H2) {Q:Value → Shared → Prop} {f:Value → Value → Sem Value}
    (hf:∀ v u s2 x y H2,Inv X pins σ H2 s2 → RelV x v → RelV y u → R x y H2 → wpAny (model X.prog X.w) X.A (f v u) Q X.xe s2) :
    wpAny (model X.prog X.w) X.A (eval a X.env) (fun v s₁ => wpAny (model X.prog X.w) X.A (eval b X.env) (fun u s₂ => wpAny (model X.prog X.w) X.A (f v u) Q X.xe s₂) X.xe s₁) X.xe s := by
  refine thn (ha pins s σ H _ I h) fun v s1 ⟨x,H1,I1,r1,q1⟩ => ?_
  refine thn (hb pins s1 σ H1 _ I1 q1) fun u s2 ⟨y,H2,I2,r2,q2⟩ => ?_
  exact hf v u s2 x y H2 I2 r1 r2 q2
theorem zh {op:Operator} {r:R2} (ho:OpR X (binaryOp op) r) (ha:PE X a ta) (hb:PE X b tb):PE X (.BinOp a op b pos) (tOp r ta tb) := by
  intro pins s σ H Q I h
  exact wpAny_BinOp (Kn ha hb I h fun v u s2 x y H2 I2 rx ry q => ho pins s2 σ H2 x y v u Q I2 rx ry q)
theorem zeN {op:UnaryOp} {r:V → Hp → VK → Prop} (ho:UnR X (unaryOp op) r) (ha:PE X a ta):PE X (.UnaryOp op a pos) (tUn r ta) := by
  intro pins s σ H Q I h
  exact UnaryOp_ (thn (ha pins s σ H _ I h) fun v s1 ⟨x,H1,I1,r1,q1⟩ => ho pins s1 σ H1 x v Q I1 r1 q1)
theorem opI {f:Value → Value → Sem Value} {C:Int → Int → Prop} {g:Int → Int → Int}
    (rule:∀ (i j:Int) (t u:Tok) (s:Shared) (Q:Value → Shared → Prop) (E:Value → Shared → Prop),C i j → Q (.int (g i j) s.toks) { s with toks := s.toks + 1 } → wpAny (model X.prog X.w) X.A (f (.int i t) (.int j u)) Q E s) :
    OpR X f (rI C fun i j => .int (g i j)) := by
  intro pins s σ H x y v u Q I rx ry h
  obtain ⟨i,j,rfl,rfl,hc,q⟩ := h
  obtain ⟨t,rfl⟩ := rx
  obtain ⟨t',rfl⟩ := ry
  exact rule i j t t' s _ _ hc ⟨.int (g i j),H,I.tok _,⟨_,rfl⟩,q⟩
theorem XD {f:Value → Value → Sem Value} {g:Int → Int → Int}
    (rule:∀ (i j:Int) (t u:Tok) (s:Shared) (Q:Value → Shared → Prop) (E:Value → Shared → Prop),Q (.int (g i j) s.toks) { s with toks := s.toks + 1 } → wpAny (model X.prog X.w) X.A (f (.int i t) (.int j u)) Q E s) :
    OpR X f (rI0 fun i j => .int (g i j)) := by
  intro pins s σ H x y v u Q I rx ry h
  obtain ⟨i,j,rfl,rfl,q⟩ := h
  obtain ⟨t,rfl⟩ := rx
  obtain ⟨t',rfl⟩ := ry
  exact rule i j t t' s _ _ ⟨.int (g i j),H,I.tok _,⟨_,rfl⟩,q⟩
theorem U0 {f:Value → Value → Sem Value} {g:Int → Int → Bool}
    (rule:∀ (i j:Int) (t u:Tok) (s:Shared) (Q:Value → Shared → Prop) (E:Value → Shared → Prop),Q (.bool (g i j)) s → wpAny (model X.prog X.w) X.A (f (.int i t) (.int j u)) Q E s) :
    OpR X f (rI0 fun i j => .bl (g i j)) := by
  intro pins s σ H x y v u Q I rx ry h
  obtain ⟨i,j,rfl,rfl,q⟩ := h
  obtain ⟨t,rfl⟩ := rx
  obtain ⟨t',rfl⟩ := ry
  exact rule i j t t' s _ _ ⟨.bl (g i j),H,I,rfl,q⟩
noncomputable def zfK (i j:Int):Prop := 0 < j ∧ j < 1073741824
noncomputable def Yj (i j:Int):Prop := (-(2 ^ 64) < i ∧ i < 2 ^ 64) ∨ (-(2 ^ 64) < j ∧ j < 2 ^ 64)
theorem Yj.ok {i j:Int} (h:Yj i j):IntMulOk i j := by
  rcases h with ⟨h1,h2⟩ | ⟨h1,h2⟩
  · exact .of_left (intBits_le_64 h1 h2)
  · exact .of_right (intBits_le_64 h1 h2)
theorem U1 (k:Nat):(0:Int) ≤ 2 ^ k := by
  rw [two_pow_cast]
  exact Int.natCast_nonneg _
theorem yK:OpR X (binaryOp .Add) (rI0 fun i j => .int (i + j)) := XD fun _ _ _ _ _ _ _ q => add_int q
theorem yc:OpR X (binaryOp .Sub) (rI0 fun i j => .int (i - j)) := XD fun _ _ _ _ _ _ _ q => sub_int q
theorem yt:OpR X (binaryOp .FloorDiv) (rI zfK fun i j => .int (i / j)) := opI fun i j _ _ _ _ _ hc q => by
  have h1:(0:Int) < j := hc.1
  have h2:j < 1073741824 := hc.2
  exact floordiv_int (by omega) (by rw [Int.fdiv_eq_ediv_of_nonneg i (by omega)]; exact q) (.inl (PyProof.noPylong_small (by omega)))
theorem ye:OpR X (binaryOp .Mod) (rI (fun _ j => 0 < j) fun i j => .int (i % j)) := opI fun i j _ _ _ _ _ hc q => by
  have h1:(0:Int) < j := hc
  exact mod_int' (by omega) (by rw [Int.fmod_eq_emod_of_nonneg i (by omega)]; exact q)
theorem Jg:OpR X (binaryOp .RShift) (rI (fun _ j => 0 ≤ j) fun i j => .int (i / 2 ^ j.toNat)) := opI fun i j _ _ _ _ _ hc q =>
  rshift_int hc (by rw [Int.fdiv_eq_ediv_of_nonneg i (U1 _)]; exact q)
theorem jX:OpR X (binaryOp .BitAnd) (rI0 fun i j => .int (Builtin.bitAnd i j)) := XD fun _ _ _ _ _ _ _ q => and_int q
theorem zeO:OpR X (binaryOp .BitOr) (rI0 fun i j => .int (Builtin.bitOr i j)) := XD fun _ _ _ _ _ _ _ q => or_int q
theorem zdq:OpR X (binaryOp .BitXor) (rI0 fun i j => .int (Builtin.bitXor i j)) := XD fun _ _ _ _ _ _ _ q => xor_int q
theorem unI {f:Value → Sem Value} {g:Int → Int}
    (rule:∀ (i:Int) (t:Tok) (s:Shared) (Q:Value → Shared → Prop) (E:Value → Shared → Prop),Q (.int (g i) s.toks) { s with toks := s.toks + 1 } → wpAny (model X.prog X.w) X.A (f (.int i t)) Q E s) :
    UnR X f (rU fun i => .int (g i)) := by
  intro pins s σ H x v Q I rx h
  obtain ⟨i,rfl,q⟩ := h
  obtain ⟨t,rfl⟩ := rx
  exact rule i t s _ _ ⟨.int (g i),H,I.tok _,⟨_,rfl⟩,q⟩
theorem zdr:UnR X (unaryOp .Invert) (rU fun i => .int (Builtin.bitNot i)) := unI fun _ _ _ _ _ q => invert_int q
end
noncomputable def Zi:V → V → Bool
  | .non,.non => true | .non,.int _ => true | .int _,.non => true | .non,.bl _ => true | .bl _,.non => true | .non,.str _ => true | .str _,.non => true
  | .int _,.int _ => true | .bl _,.bl _ => true | .str _,.str _ => true | .byt _,.byt _ => true
  | .int _,.str _ => true | .str _,.int _ => true | .bl _,.str _ => true | .str _,.bl _ => true
  | _,_ => false
noncomputable def rEq:R2 := fun x y H Q => Zi x y = true ∧ Q (.bl (decide (x = y))) H
noncomputable def rNe:R2 := fun x y H Q => Zi x y = true ∧ Q (.bl (!decide (x = y))) H
theorem Us {i j:Int}:decide (V.int i = V.int j) = (i == j) := by
  rw [Bool.eq_iff_iff]
  simp
theorem Jh {i j:Bool}:decide (V.bl i = V.bl j) = (i == j) := by
  rw [Bool.eq_iff_iff]
  simp
theorem Ut {i j:Str}:decide (V.str i = V.str j) = (i == j) := by
  rw [Bool.eq_iff_iff]
  simp
theorem Uu {i j:Array UInt8}:decide (V.byt i = V.byt j) = (i.toList == j.toList) := by
  rw [Bool.eq_iff_iff]
  cases i
  cases j
  simp
section
variable {X:Cx} {a b c:Expr} {ta tb tc:TE} {pos:Pos}
theorem yi {pins:List (Addr × Obj)} {σ:St} {H:Hp} {s:Shared} {Q:VK} {k k':Bool} (I:Inv X pins σ H s) (q:Q (.bl k) H) (e:k = k'):EP X pins σ Q (.bool k') s := by
  subst e
  exact ⟨.bl k,H,I,rfl,q⟩
theorem yM:OpR X (compareOp .Eq) rEq := by
  intro pins s σ H x y v u Q I rx ry h
  obtain ⟨hs,q⟩ := h
  cases x with
  | non =>
    cases rx
    cases y with
    | non => cases ry; exact PySem.EqNone.eq_none_none (yi I q (by simp))
    | bl j => cases ry; exact PySem.EqNone.eq_none_bool (yi I q (by simp))
    | int j => obtain ⟨t',rfl⟩ := ry; exact PySem.EqNone.eq_none_int (yi I q (by simp))
    | str j => obtain ⟨t',rfl⟩ := ry; exact PySem.EqNone.eq_none_str (yi I q (by simp))
    | _ => exact absurd (show false = true from hs) Bool.false_ne_true
  | bl i =>
    cases rx
    cases y with
    | non => cases ry; exact PySem.EqNone.eq_bool_none (yi I q (by simp))
    | bl j => cases ry; exact eq_bool (yi I q Jh)
    | str j => obtain ⟨t',rfl⟩ := ry; exact PySem.EqMixed.eq_bool_str (yi I q (by simp))
    | _ => exact absurd (show false = true from hs) Bool.false_ne_true
  | int i =>
    obtain ⟨t,rfl⟩ := rx
    cases y with
    | non => cases ry; exact PySem.EqNone.eq_int_none (yi I q (by simp))
    | int j => obtain ⟨t',rfl⟩ := ry; exact eq_int (yi I q Us)
    | str j => obtain ⟨t',rfl⟩ := ry; exact PySem.EqMixed.eq_int_str (yi I q (by simp))
    | _ => exact absurd (show false = true from hs) Bool.false_ne_true
  | str i =>
    obtain ⟨t,rfl⟩ := rx
    cases y with
    | non => cases ry; exact PySem.EqNone.eq_str_none (yi I q (by simp))
    | bl j => cases ry; exact PySem.EqMixed.eq_str_bool (yi I q (by simp))
    | int j => obtain ⟨t',rfl⟩ := ry; exact PySem.EqMixed.eq_str_int (yi I q (by simp))
    | str j => obtain ⟨t',rfl⟩ := ry; exact eq_str (yi I q Ut)
    | _ => exact absurd (show false = true from hs) Bool.false_ne_true
  | byt i =>
    obtain ⟨t,rfl⟩ := rx
    cases y with
    | byt j => obtain ⟨t',rfl⟩ := ry; exact PySem.W.eq_bytes (yi I q Uu)
    | _ => exact absurd (show false = true from hs) Bool.false_ne_true
  | _ => cases y <;> exact absurd (show false = true from hs) Bool.false_ne_true
theorem zeP:OpR X (compareOp .NotEq) rNe := by
  intro pins s σ H x y v u Q I rx ry h
  obtain ⟨hs,q⟩ := h
  cases x with
  | non =>
    cases rx
    cases y with
    | non => cases ry; exact PySem.EqNone.ne_none_none (yi I q (by simp))
    | bl j => cases ry; exact PySem.EqNone.ne_none_bool (yi I q (by simp))
    | int j => obtain ⟨t',rfl⟩ := ry; exact PySem.EqNone.ne_none_int (yi I q (by simp))
    | str j => obtain ⟨t',rfl⟩ := ry; exact PySem.EqNone.ne_none_str (yi I q (by simp))
    | _ => exact absurd (show false = true from hs) Bool.false_ne_true
  | bl i =>
    cases rx
    cases y with
    | non => cases ry; exact PySem.EqNone.ne_bool_none (yi I q (by simp))
    | bl j => cases ry; exact ne_bool (yi I q (congrArg not Jh))
    | str j => obtain ⟨t',rfl⟩ := ry; exact PySem.EqMixed.ne_bool_str (yi I q (by simp))
    | _ => exact absurd (show false = true from hs) Bool.false_ne_true
  | int i =>
    obtain ⟨t,rfl⟩ := rx
    cases y with
    | non => cases ry; exact PySem.EqNone.ne_int_none (yi I q (by simp))
    | int j => obtain ⟨t',rfl⟩ := ry; exact ne_int (yi I q (congrArg not Us))
    | str j => obtain ⟨t',rfl⟩ := ry; exact PySem.EqMixed.ne_int_str (yi I q (by simp))
    | _ => exact absurd (show false = true from hs) Bool.false_ne_true
  | str i =>
    obtain ⟨t,rfl⟩ := rx
    cases y with
    | non => cases ry; exact PySem.EqNone.ne_str_none (yi I q (by simp))
    | bl j => cases ry; exact PySem.EqMixed.ne_str_bool (yi I q (by simp))
    | int j => obtain ⟨t',rfl⟩ := ry; exact PySem.EqMixed.ne_str_int (yi I q (by simp))
    | str j => obtain ⟨t',rfl⟩ := ry; exact ne_str (yi I q (congrArg not Ut))
    | _ => exact absurd (show false = true from hs) Bool.false_ne_true
  | byt i =>
    obtain ⟨t,rfl⟩ := rx
    cases y with
    | byt j => obtain ⟨t',rfl⟩ := ry; exact PySem.W.ne_bytes (yi I q (congrArg not Uu))
    | _ => exact absurd (show false = true from hs) Bool.false_ne_true
  | _ => cases y <;> exact absurd (show false = true from hs) Bool.false_ne_true
theorem jp:OpR X (compareOp .Lt) (rI0 fun i j => .bl (decide (i < j))) := U0 fun _ _ _ _ _ _ _ q => lt_int q
theorem xI:OpR X (compareOp .LtE) (rI0 fun i j => .bl (decide (i ≤ j))) := U0 fun _ _ _ _ _ _ _ q => le_int q
theorem uI:OpR X (compareOp .Gt) (rI0 fun i j => .bl (decide (j < i))) := U0 fun _ _ _ _ _ _ _ q => gt_int q
theorem Xh:OpR X (compareOp .GtE) (rI0 fun i j => .bl (decide (j ≤ i))) := U0 fun _ _ _ _ _ _ _ q => ge_int q
theorem XE:OpR X (compareOp .Is) (fun x y H Q => y = .non ∧ Q (.bl (decide (x = .non))) H) := by
  intro pins s σ H x y v u Q I rx ry h
  obtain ⟨rfl,q⟩ := h
  cases ry
  refine is_none_gen (yi I q ?_)
  cases x <;> first
    | (cases rx; rfl)
    | (obtain ⟨t,rfl⟩ := rx; rfl)
theorem Uv:OpR X (compareOp .IsNot) (fun x y H Q => y = .non ∧ Q (.bl (!decide (x = .non))) H) := by
  intro pins s σ H x y v u Q I rx ry h
  obtain ⟨rfl,q⟩ := h
  cases ry
  refine isnot_none_gen (yi I q ?_)
  cases x <;> first
    | (cases rx; rfl)
    | (obtain ⟨t,rfl⟩ := rx; rfl)
theorem OpR.or {f:Value → Value → Sem Value} {r r':R2} (h:OpR X f r) (h':OpR X f r'):OpR X f (fun x y H Q => r x y H Q ∨ r' x y H Q) := by
  intro pins s σ H x y v u Q I rx ry q
  rcases q with q | q
  · exact h pins s σ H x y v u Q I rx ry q
  · exact h' pins s σ H x y v u Q I rx ry q
theorem zo (b:Expr) {op:CmpOp} (h:op ≠ .In := by decide) (h2:op ≠ .NotIn := by decide):behindInMarks op b = false := by
  have e1:(op == CmpOp.In) = false := by cases op <;> first | rfl | exact absurd rfl h
  have e2:(op == CmpOp.NotIn) = false := by cases op <;> first | rfl | exact absurd rfl h2
  cases b <;> simp [behindInMarks,e1,e2]
theorem uM {op:CmpOp} {r:R2} (ho:OpR X (compareOp op) r) (ha:PE X a ta) (hb:PE X b tb) (hm:behindInMarks op b = false):PE X (.Compare a [op] [b] pos) (tOp r ta tb) := by
  intro pins s σ H Q I h
  exact wpAny_Compare1 (Kn ha hb I h fun v u s2 x y H2 I2 rx ry q => ho pins s2 σ H2 x y v u Q I2 rx ry q) hm
noncomputable def U2 (t:TE):TT := fun σ H Q => t σ H fun x H' => ∃ k,x = .bl k ∧ Q k H'
theorem zl {op:CmpOp} {r:R2} (ho:OpR X (compareOp op) r) (ha:PE X a ta) (hb:PE X b tb) (hm:behindInMarks op b = false):PT X (.Compare a [op] [b] pos) (U2 (tOp r ta tb)) := by
  intro pins s σ H Q I h
  refine wpAny_isTrue_Compare1 (thn (ha pins s σ H _ I h) fun v s1 ⟨x,H1,I1,r1,q1⟩ => thn (hb pins s1 σ H1 _ I1 q1) fun u s2 ⟨y,H2,I2,r2,q2⟩ =>
    thn (ho pins s2 σ H2 x y v u _ I2 r1 r2 q2) fun c s3 ⟨z,H3,I3,r3,k,e,q3⟩ => ?_) hm
  subst e
  cases r3
  exact wpAny_truthy_bool ⟨H3,I3,q3⟩
noncomputable def XF (r r':R2) (ta tb tc:TE):TE := fun σ H Q => ta σ H fun x H1 => tb σ H1 fun y H2 => r x y H2 fun z H3 => ∃ k,z = .bl k ∧
  (if k = true then tc σ H3 fun w' H4 => r' y w' H4 Q else Q (.bl false) H3)
theorem Ko {op op':CmpOp} {r r':R2} (ho:OpR X (compareOp op) r) (ho':OpR X (compareOp op') r') (ha:PE X a ta) (hb:PE X b tb) (hc:PE X c tc)
    (hm:lastMarks [op,op'] [b,c] = false := by with_unfolding_all rfl):PE X (.Compare a [op,op'] [b,c] pos) (XF r r' ta tb tc) := by
  intro pins s σ H Q I h
  refine Compare_chain (thn (ha pins s σ H _ I h) fun v s1 ⟨x,H1,I1,r1,q1⟩ => chain_link (thn (hb pins s1 σ H1 _ I1 q1) fun u s2 ⟨y,H2,I2,r2,q2⟩ =>
    thn (ho pins s2 σ H2 x y v u _ I2 r1 r2 q2) fun d s3 ⟨z,H3,I3,r3,k,e,q3⟩ => ?_)) hm
  subst e
  cases r3
  refine wpAny_truthy_bool ?_
  cases k with
  | false => exact ite_ff ⟨.bl false,H3,I3,rfl,q3⟩
  | true => exact ite_tt (chain_last (thn (hc pins s3 σ H3 _ I3 q3) fun w' s4 ⟨z',H4,I4,r4,q4⟩ => ho' pins s4 σ H4 y z' u w' Q I4 r2 r4 q4))
theorem ue {op op':CmpOp} {r r':R2} (ho:OpR X (compareOp op) r) (ho':OpR X (compareOp op') r') (ha:PE X a ta) (hb:PE X b tb) (hc:PE X c tc)
    (hm:lastMarks [op,op'] [b,c] = false := by with_unfolding_all rfl):PT X (.Compare a [op,op'] [b,c] pos) (U2 (XF r r' ta tb tc)) := by
  intro pins s σ H Q I h
  refine isTrue_chain (thn (ha pins s σ H _ I h) fun v s1 ⟨x,H1,I1,r1,q1⟩ => test_link (thn (hb pins s1 σ H1 _ I1 q1) fun u s2 ⟨y,H2,I2,r2,q2⟩ =>
    thn (ho pins s2 σ H2 x y v u _ I2 r1 r2 q2) fun d s3 ⟨z,H3,I3,r3,k,e,q3⟩ => ?_)) hm
  subst e
  cases r3
  refine wpAny_truthy_bool ?_
  cases k with
  | false =>
    obtain ⟨k',e',q'⟩ := q3
    cases e'
    exact ite_ff ⟨H3,I3,q'⟩
  | true =>
    refine ite_tt (test_last (thn (hc pins s3 σ H3 _ I3 q3) fun w' s4 ⟨z',H4,I4,r4,q4⟩ => thn (ho' pins s4 σ H4 y z' u w' _ I4 r2 r4 q4) fun d' s5 ⟨z2,H5,I5,r5,k2,e2,q5⟩ => ?_))
    subst e2
    cases r5
    exact wpAny_truthy_bool ⟨H5,I5,q5⟩
noncomputable def Yk (K:PySem.W.Frag) (x:V) (H:Hp) (k:Bool):Prop :=
  match x with
  | .non => k = false
  | .bl b => k = b
  | .int i => k = (i != 0)
  | .str y => y.length ≤ sizeLine ∧ k = ((y.length:Int) != 0)
  | .byt y => y.size ≤ sizeLine ∧ k = ((y.size:Int) != 0)
  | .ref p => (∃ xs,SqL K H p xs ∧ k = !xs.isEmpty) ∨ (∃ xs,SqT K H p xs ∧ k = !xs.isEmpty) ∨ ∃ kvs,H p = some (.dK kvs) ∧ k = !kvs.isEmpty
  | _ => False
theorem U3 {κ:Type} {kvs:List (κ × V)} {vs:List (κ × Value)} (r:KV kvs vs):(!vs.isEmpty) = !kvs.isEmpty := by
  cases r <;> rfl
theorem ZB {xs:List V} {its:List Value} (r:Vals xs its):(!its.toArray.isEmpty) = !xs.isEmpty := by
  cases r <;> simp
theorem qU:(sizeLine:Nat) < 2 ^ 63 := by rw [sizeLine_eq]; decide
theorem Ji:zfJ X (fun x H Q => ∃ k,Yk X.K x H k ∧ Q k H) := by
  intro pins s σ H x v Q I rx h
  obtain ⟨k,e,q⟩ := h
  have hl := qU
  have hs:sizeLine = 16777216 := sizeLine_eq
  cases x with
  | non =>
    cases rx
    have e':k = false := e
    subst e'
    exact truthy_none ⟨H,I,q⟩
  | bl b =>
    cases rx
    have e':k = b := e
    subst e'
    exact wpAny_truthy_bool ⟨H,I,q⟩
  | int i =>
    obtain ⟨t,rfl⟩ := rx
    have e':k = (i != 0) := e
    subst e'
    exact PySem.P.truthy_int ⟨H,I,q⟩
  | str y =>
    obtain ⟨t,rfl⟩ := rx
    obtain ⟨hy,e'⟩:y.length ≤ sizeLine ∧ k = ((y.length:Int) != 0) := e
    subst e'
    exact PySem.P.truthy_str (by omega) ⟨H,I.tok _,q⟩
  | byt y =>
    obtain ⟨t,rfl⟩ := rx
    obtain ⟨hy,e'⟩:y.size ≤ sizeLine ∧ k = ((y.size:Int) != 0) := e
    subst e'
    exact PySem.W.truthy_bytes (by omega) ⟨H,I.tok _,q⟩
  | ref p =>
    cases rx
    have e':(∃ xs,SqL X.K H p xs ∧ k = !xs.isEmpty) ∨ (∃ xs,SqT X.K H p xs ∧ k = !xs.isEmpty) ∨ ∃ kvs,H p = some (.dK kvs) ∧ k = !kvs.isEmpty := e
    rcases e' with ⟨xs,hx,e'⟩ | ⟨xs,hx,e'⟩ | ⟨kvs,hx,e'⟩
    · subst e'
      obtain ⟨its,r,pl,hz⟩ := I.list hx
      have hlen := r.length
      exact wpAny_truthy_list pl.isList (by simp only [List.size_toArray]; omega) ⟨H,I.tok _,by rw [ZB r]; exact q⟩
    · subst e'
      obtain ⟨its,r,pl,hz⟩ := I.tuple hx
      have hlen := r.length
      exact truthy_tuple pl (by simp only [List.size_toArray]; omega) ⟨H,I.tok _,by rw [ZB r]; exact q⟩
    · subst e'
      obtain ⟨hz,hS,vs,r,m⟩:kvs.length ≤ sizeLine ∧ (p == sysModules) = false ∧ ∃ vs,KV kvs vs ∧ s.heap.DictOf (yP X.prog X.w) p vs := I.hok p _ hx
      have hlen:kvs.length = vs.length := Paired.length r
      exact wpAny_truthy_dict hS m (by omega) ⟨H,I.tok _,by rw [U3 r]; exact q⟩
  | _ => exact (show False from e).elim
theorem Kp (ha:PE X a ta) (he:∀ whole,isTrue a X.env whole = (do let v ← whole; standAt a.pos; holding [v] (truthy v))) :
    PT X a (fun σ H Q => ta σ H fun x H' => ∃ k,Yk X.K x H' k ∧ Q k H') := by
  intro pins s σ H Q I h
  exact isTrue_plain (thn (ha pins s σ H _ I h) fun v s1 ⟨x,H1,I1,r1,q1⟩ => Ji pins s1 σ H1 x v Q I1 r1 q1) (he _)
theorem vG:OpR X (binaryOp .Add) (fun x y H Q => ∃ i j,x = .str i ∧ y = .str j ∧ i.length + j.length ≤ sizeLine ∧ Q (.str (i ++ j)) H) := by
  intro pins s σ H x y v u Q I rx ry h
  obtain ⟨i,j,rfl,rfl,hz,q⟩ := h
  obtain ⟨t,rfl⟩ := rx
  obtain ⟨t',rfl⟩ := ry
  exact add_str (fun t' tk => ⟨.str (i ++ j),H,I.tok _,⟨_,rfl⟩,q⟩) hz
theorem Xi {x:V} {us:List Value} (r:Vals [x] us):∃ u,us = [u] ∧ RelV x u := by
  cases r with
  | cons r1 r2 => cases r2; exact ⟨_,rfl,r1⟩
theorem zaY {x y:V} {us:List Value} (r:Vals [x,y] us):∃ u w',us = [u,w'] ∧ RelV x u ∧ RelV y w' := by
  cases r with
  | cons r1 r2 =>
    cases r2 with
    | cons r3 r4 => cases r4; exact ⟨_,_,rfl,r1,r3⟩
theorem jY (hc:X.calm = true):y9 X (.builtin "max") (fun xs H Q => ∃ i j,xs = [.int i,.int j] ∧ Q (.int (if j > i then j else i)) H) := by
  intro pins s σ H xs us Q I r h
  obtain ⟨i,j,rfl,q⟩ := h
  obtain ⟨u,w',rfl,⟨t,rfl⟩,⟨t',rfl⟩⟩ := zaY r
  refine max_two_ints (I.ok.hd hc) fun h' tk k => ⟨_,H,I.kept k,?_,q⟩
  by_cases hj:j > i
  · rw [if_pos hj,if_pos hj]; exact ⟨_,rfl⟩
  · rw [if_neg hj,if_neg hj]; exact ⟨_,rfl⟩
theorem vg (hc:X.calm = true):y9 X (.builtin "min") (fun xs H Q => ∃ i j,xs = [.int i,.int j] ∧ Q (.int (if j < i then j else i)) H) := by
  intro pins s σ H xs us Q I r h
  obtain ⟨i,j,rfl,q⟩ := h
  obtain ⟨u,w',rfl,⟨t,rfl⟩,⟨t',rfl⟩⟩ := zaY r
  refine min_two_ints (I.ok.hd hc) fun h' tk k => ⟨_,H,I.kept k,?_,q⟩
  by_cases hj:j < i
  · rw [if_pos hj,if_pos hj]; exact ⟨_,rfl⟩
  · rw [if_neg hj,if_neg hj]; exact ⟨_,rfl⟩
theorem XG:y9 X (.type "str") (fun xs H Q => ∃ i,xs = [.int i] ∧ i.natAbs.log2 < 1920 ∧ Q (.str (toString i)) H) := by
  intro pins s σ H xs us Q I r h
  obtain ⟨i,rfl,hz,q⟩ := h
  obtain ⟨u,rfl,t,rfl⟩ := Xi r
  exact PySem.P.str_of_int hz ⟨.str _,H,I.tok _,⟨_,rfl⟩,q⟩
end
end L2
namespace L2
open PySem PySem.Spec PyProof.Rows
structure ObjM (h:Heap) (x dx C:Addr) (mA:Str → Option Value):Prop where
  obj:h.get? x = some (PySem.W.instObj C dx)
  ns:h.Ns1 dx mA
  ne:dx ≠ x
theorem Jj {h:Heap} {dx:Addr} {mA:Str → Option Value} (n:h.Ns1 dx mA):∃ od,h.get? dx = some od ∧ ∀ name,PySem.W.lookIn name od = some (mA name) := by
  obtain ⟨o,es,ep,ho,hd,hk,_,hm⟩ := n
  refine ⟨o,ho,fun name => ?_⟩
  have e := hm name
  unfold nsFind findBy at e
  rw [← Array.find?_toList] at e
  unfold PySem.W.lookIn
  rw [hd]
  dsimp only
  split
  · rename_i y q
    rw [q] at e
    exact congrArg some e
  · rename_i q
    rw [q] at e
    have a:es.toList.any (·.refKey) = false := by
      rw [List.any_eq_false]
      intro y hy
      obtain ⟨z,t,hkey⟩ := hk y (Array.mem_toList_iff.mp hy)
      simp [DictEntry.refKey,hkey]
    have a':¬ es.toList.any (·.refKey) = true := by rw [a]; exact Bool.false_ne_true
    rw [if_neg a']
    exact congrArg some e
theorem ObjM.look {h:Heap} {x dx C:Addr} {mA:Str → Option Value} (I:ObjM h x dx C mA):∃ od,PySem.W.InstAt h x (PySem.W.instObj C dx) C (some od) ∧ ∀ name,PySem.W.lookIn name od = some (mA name) :=
  let ⟨od,ho,hl⟩ := Jj I.ns
  ⟨od,⟨I.obj,rfl,rfl,ho⟩,hl⟩
section
variable {prog:Program} {w:World} {A:Around} {E:Value → Shared → Prop} {s:Shared} {K:PySem.W.Frag} {x dx C f:Addr} {mA:Str → Option Value} {name:Str} {v:Value}
theorem zbQ {expr:Bool} {Q:Value → Shared → Prop} (X:K.In s.heap) (I:ObjM s.heap x dx C mA) (hg:PySem.W.plainGet K C name = true) (hh:PySem.W.hasDictIn K C = true)
    (ha:PySem.W.findIn K (.ref C) name = some none) (hv:mA name = some v) (hv':PySem.W.handedIn v = true) (h:Q v { s with toks := s.toks + 1 }) :
    wpAny (model prog w) A (getAttr (.ref x) name expr) Q E s := by
  obtain ⟨od,J,hl⟩ := I.look
  exact PySem.W.get_value X J (PySem.W.plainGet_of hg).1 (PySem.W.findObj_own hh ha rfl (by rw [hl,hv])) hv' h
theorem Kq {pl:Sem Bool} {Q:Value × List Value → Shared → Prop} (X:K.In s.heap) (I:ObjM s.heap x dx C mA) (hg:PySem.W.plainGet K C name = true)
    (hf:PySem.W.findIn K (.ref C) name = some (some (.ref f))) (ht:PySem.W.isFn K (.ref f) = true) (hv:mA name = none) (h:Q (.ref f,[.ref x]) s) :
    wpAny (model prog w) A (getMethod (.ref x) name pl) Q E s := by
  obtain ⟨od,J,hl⟩ := I.look
  exact PySem.W.method_fn X J (PySem.W.plainGet_of hg).1 (PySem.W.plainGet_of hg).2 hf (beq_iff_eq.mp ht) (by show (PySem.W.lookIn name od).map (·.isSome) = some false; rw [hl,hv]; rfl) h
theorem zbR {ns:List Str} {Q:Unit → Shared → Prop} (X:K.In s.heap) (I:ObjM s.heap x dx C mA)
    (hs:PySem.W.findIn K (.ref C) "__setattr__" = some (some (.builtin "object.__setattr__"))) (hp:PySem.W.plainOver K C = true) (ht:PySem.W.takerIn K C name = some none) (hh:PySem.W.hasDictIn K C = true)
    (hw:PySem.Within mA ns) (hsz:ns.length ≤ sizeLine)
    (h:∀ h',ObjM h' x dx C (fun y => if y = name then some v else mA y) → Heap.SameBut dx s.heap h' → Q () { s with heap := h',toks := s.toks + 2 }) :
    wpAny (model prog w) A (setAttr (.ref x) name v) Q E s := by
  obtain ⟨od,J,hl⟩ := I.look
  refine PySem.W.set_plain X J hs (PySem.W.osa_open (s := { s with toks := s.toks + 1 }) (r := none) X J hp ht fun b => ?_)
  obtain ⟨cd,hc,hd'⟩ := PySem.W.any_some hh
  have hx:s.heap.get? x = some ⟨.ref C,some dx,.plain,#[]⟩ := I.obj
  refine wpAny_bind (wpAny_pure (wpAny_bind (wpAny_bind (wpAny_loadPart hx (wpAny_bind (PySem.W.Looks.here (s := { s with toks := s.toks + 1 }) (PySem.W.looks_clsIn X hc) ?_))))))
  rw [hd']
  refine wpAny_pure (a := some dx) (wpAny_bind (wpAny_pure (wpAny_bind ?_)))
  refine wpAny_nsSet1 (s := { s with toks := s.toks + 1 }) I.ns fun h' hn2 hs2 => ?_
  obtain ⟨oD,esD,epD,hoD,hdD,hcD⟩ := hn2.count (PySem.Within.cons name v hw)
  refine wpAny_bind (wpAny_lookBehind hoD (by rw [hdD]; exact pastItsLine_dict (Nat.le_trans hcD (by rw [List.length_cons]; omega))) ?_)
  exact wpAny_pure (h _ ⟨(hs2.2 _ (Ne.symm I.ne)).trans I.obj,hn2,I.ne⟩ hs2)
theorem Kr {R:Result → Shared → Prop} {vs:List Value} {kw:List (Str × Value)} (X:K.In s.heap) (hm:PySem.W.makesIn K C = true)
    (hi:PySem.W.findIn K (.ref C) "__init__" = some (some (.ref f))) (hf:PySem.W.typeIn K (.ref f) = some (.type "function"))
    (h:codeAny (model prog w) (A.under (.builtin "type.__call__" ⟨.ref C :: vs,kw⟩)) (.call (.ref f) ⟨.ref (s.heap.objs.size + 1) :: vs,kw⟩) (PySem.W.InitBack (s.heap.objs.size + 1) R)
      { s with heap := (s.heap.push PySem.W.emptyDict).push (PySem.W.instObj C s.heap.objs.size) }) :
    codeAny (model prog w) A (.call (.ref C) ⟨vs,kw⟩) R s := by
  obtain ⟨hh,g,d,t,os⟩ := s
  exact PySem.W.make_core (PySem.W.makes_of X hm) (PySem.W.looks_findIn X hi) (fun self => PySem.W.bind_fn X self hf) (.inl rfl) h
end
noncomputable def vc (f:Str) (v:V):List (Str × V) → List (Str × V)
  | [] => [(f,v)]
  | (g,x) :: r => if g = f then (g,v) :: r else (g,x) :: vc f v r
theorem Zc (f g:Str) (v:V):∀ fs:List (Str × V),(vc f v fs).lookup g = if g = f then some v else fs.lookup g
  | [] => by
    show List.lookup g [(f,v)] = _
    by_cases h:g = f
    · have hb:(g == f) = true := beq_iff_eq.mpr h
      simp only [List.lookup,hb,if_pos h]
    · have hb:(g == f) = false := beq_eq_false_iff_ne.mpr h
      simp only [List.lookup,hb,if_neg h]
  | (k,x) :: r => by
    have ih := Zc f g v r
    rw [show vc f v ((k,x) :: r) = (if k = f then (k,v) :: r else (k,x) :: vc f v r) from rfl]
    by_cases hk:k = f
    · rw [if_pos hk]
      by_cases h:g = k
      · have hb:(g == k) = true := beq_iff_eq.mpr h
        simp only [List.lookup,hb,if_pos (h.trans hk)]
      · have hb:(g == k) = false := beq_eq_false_iff_ne.mpr h
        simp only [List.lookup,hb,if_neg (fun e:g = f => h (e.trans hk.symm))]
    · rw [if_neg hk]
      by_cases h:g = k
      · have hb:(g == k) = true := beq_iff_eq.mpr h
        simp only [List.lookup,hb,if_neg (fun e:g = f => hk (h.symm.trans e))]
      · have hb:(g == k) = false := beq_eq_false_iff_ne.mpr h
        simp only [List.lookup,hb]
        exact ih
theorem jZ (f:Str) (v:V):∀ fs:List (Str × V),f ∈ (vc f v fs).map (·.1) ∧ ∀ g,g ∈ fs.map (·.1) → g ∈ (vc f v fs).map (·.1)
  | [] => ⟨by simp [vc],fun g h => by simp at h⟩
  | (k,x) :: r => by
    obtain ⟨i1,i2⟩ := jZ f v r
    rw [show vc f v ((k,x) :: r) = (if k = f then (k,v) :: r else (k,x) :: vc f v r) from rfl]
    by_cases hk:k = f
    · rw [if_pos hk]
      subst hk
      exact ⟨by simp,fun g h => by simpa using h⟩
    · rw [if_neg hk]
      refine ⟨?_,fun g h => ?_⟩
      · rw [List.map_cons]
        exact List.mem_cons_of_mem _ i1
      · rw [List.map_cons] at h ⊢
        rcases List.mem_cons.mp h with e | e
        · exact List.mem_cons.mpr (.inl e)
        · exact List.mem_cons_of_mem _ (i2 g e)
theorem Zd (f:Str) (v:V):∀ fs:List (Str × V),(vc f v fs).length ≤ fs.length + 1
  | [] => by simp [vc]
  | (k,x) :: r => by
    have ih := Zd f v r
    rw [show vc f v ((k,x) :: r) = (if k = f then (k,v) :: r else (k,x) :: vc f v r) from rfl]
    by_cases hk:k = f
    · rw [if_pos hk,List.length_cons,List.length_cons]; omega
    · rw [if_neg hk,List.length_cons,List.length_cons]; omega
theorem va.some_of {v:V} {o:Option Value} (r:va (some v) o):∃ u,o = some u ∧ RelV v u := by
  cases o with
  | none => exact (show False from r).elim
  | some u => exact ⟨u,rfl,r⟩
theorem va.none_of {o:Option Value} (r:va none o):o = none := by
  cases o with
  | none => rfl
  | some u => exact (show False from r).elim
theorem Jk {v:V} {u:Value} (r:RelV v u):PySem.W.handedIn u = true := by
  cases v with
  | non => cases (show u = Value.none from r); rfl
  | bl b => cases (show u = Value.bool b from r); rfl
  | int i => obtain ⟨t,e⟩ := (show ∃ t,u = Value.int i t from r); cases e; rfl
  | str x => obtain ⟨t,e⟩ := (show ∃ t,u = Value.str x t from r); cases e; rfl
  | byt b => obtain ⟨t,e⟩ := (show ∃ t,u = Value.bytes b t from r); cases e; rfl
  | flt b => obtain ⟨t,e⟩ := (show ∃ t,u = Value.float b t from r); cases e; rfl
  | ref a => cases (show u = Value.ref a from r); rfl
  | ty n => cases (show u = Value.type n from r); rfl
section
variable {P:Program} {w:World} {H H':Hp} {h h':Heap} {a C dx:Addr} {fs fs':List (Str × V)}
theorem kM (hok:HOk P w H h) (e:H a = some (.ins C dx fs)):∃ mA,ObjM h a dx C mA ∧ (∀ f,va (fs.lookup f) (mA f)) ∧ PySem.Within mA (fs.map (·.1)) ∧ fs.length ≤ 1000 ∧ H dx = some (.own a) := by
  obtain ⟨d,z,ne,ob,mA,n,r,q⟩ := (show yY P w H h a (.ins C dx fs) from hok a _ e)
  exact ⟨mA,⟨ob,n,ne⟩,r,q,z,d⟩
end
structure Cls (K:PySem.W.Frag) (C:Addr):Prop where
  pg:PySem.W.plainGet K C Str.empty = true
  hd:PySem.W.hasDictIn K C = true
  po:PySem.W.plainOver K C = true
  sa:PySem.W.findIn K (.ref C) "__setattr__" = some (some (.builtin "object.__setattr__"))
theorem Cls.get {K:PySem.W.Frag} {C:Addr} (c:Cls K C) (f:Str):PySem.W.plainGet K C f = true := c.pg
noncomputable def NoAttr (K:PySem.W.Frag) (C:Addr) (f:Str):Prop := PySem.W.findIn K (.ref C) f = some none
theorem NoAttr.taker {K:PySem.W.Frag} {C:Addr} {f:Str} (n:NoAttr K C f):PySem.W.takerIn K C f = some none := by
  unfold PySem.W.takerIn
  rw [show PySem.W.findIn K (.ref C) f = some none from n]
  rfl
structure Meth (K:PySem.W.Frag) (C:Addr) (m:Str) (f:Addr):Prop where
  at_:PySem.W.findIn K (.ref C) m = some (some (.ref f))
  fn:PySem.W.isFn K (.ref f) = true
  kp:PySem.W.keepIn K (.ref f) = true
section
variable {X:Cx} {pins:List (Addr × Obj)} {σ:St} {H:Hp} {s:Shared} {a C dx:Addr} {fs:List (Str × V)} {f:Str} {v:V} {A:Around} {E:Value → Shared → Prop}
theorem U4 {b:Bool} {Q:Value → Shared → Prop} (I:Inv X pins σ H s) (e:H a = some (.ins C dx fs)) (c:Cls X.K C) (n:NoAttr X.K C f) (l:fs.lookup f = some v)
    (h:∀ u s',Inv X pins σ H s' → RelV v u → Q u s'):wpAny (model X.prog X.w) A (getAttr (.ref a) f b) Q E s := by
  obtain ⟨mA,O,r,_,_,_⟩ := kM I.hok e
  obtain ⟨u,hu,ru⟩ := va.some_of (v := v) (o := mA f) (by rw [← l]; exact r f)
  exact zbQ I.kIn O (c.get f) c.hd n hu (Jk ru) (h u _ (I.tok _) ru)
theorem U5 {m:Str} {g:Addr} {pl:Sem Bool} {Q:Value × List Value → Shared → Prop} (I:Inv X pins σ H s) (e:H a = some (.ins C dx fs)) (c:Cls X.K C) (k:Meth X.K C m g) (l:fs.lookup m = none)
    (h:Q (.ref g,[.ref a]) s):wpAny (model X.prog X.w) A (getMethod (.ref a) m pl) Q E s := by
  obtain ⟨mA,O,r,_,_,_⟩ := kM I.hok e
  have hn:mA m = none := va.none_of (by rw [← l]; exact r m)
  exact Kq I.kIn O (c.get m) k.at_ k.fn hn h
theorem U6 {y:V} {u:Value} {Q:Unit → Shared → Prop} (I:Inv X pins σ H s) (e:H a = some (.ins C dx fs)) (c:Cls X.K C) (n:NoAttr X.K C f) (hl:fs.length < 1000) (ry:RelV y u)
    (h:∀ s',Inv X pins σ (upd H a (.ins C dx (vc f y fs))) s' → Q () s'):wpAny (model X.prog X.w) A (setAttr (.ref a) f u) Q E s := by
  obtain ⟨mA,O,r,wi,_,ho⟩ := kM I.hok e
  have hz:(fs.map (·.1)).length ≤ sizeLine := by rw [List.length_map,sizeLine_eq]; omega
  refine zbR I.kIn O c.sa c.po n.taker c.hd wi hz fun h' O' sb => h _ ?_
  have hd:∃ o,h'.get? dx = some o := let ⟨o,_,_,e',_⟩ := O'.ns; ⟨o,e'⟩
  refine I.write (x := a) (e := dx) (by rw [e]; exact True.intro) (.inr ho) (fun b q hb z => (sb.2 b hb).trans z) hd ?_
  refine ⟨by rw [zi O.ne]; exact ho,?_,O.ne,O'.obj,_,O'.ns,fun g => ?_,fun g hg => ?_⟩
  · have := Zd f y fs; omega
  · show va ((vc f y fs).lookup g) (if g = f then some u else mA g)
    rw [Zc]
    by_cases q:g = f
    · rw [if_pos q,if_pos q]; exact ry
    · rw [if_neg q,if_neg q]; exact r g
  · by_cases q:g = f
    · rw [q]; exact (jZ f y fs).1
    · refine (jZ f y fs).2 g (wi g fun z => hg ?_)
      show (if g = f then some u else mA g) = none
      rw [if_neg q]; exact z
theorem Inv.made (I:Inv X pins σ H s):Inv X pins σ (upd (upd H s.heap.objs.size (.own (s.heap.objs.size + 1))) (s.heap.objs.size + 1) (.ins C s.heap.objs.size []))
    { s with heap := (s.heap.push PySem.W.emptyDict).push (PySem.W.instObj C s.heap.objs.size) } := by
  have e1:(s.heap.push PySem.W.emptyDict).get? s.heap.objs.size = some PySem.W.emptyDict := Heap.get?_push_size s.heap rfl
  have e2:((s.heap.push PySem.W.emptyDict).push (PySem.W.instObj C s.heap.objs.size)).get? (s.heap.objs.size + 1) = some (PySem.W.instObj C s.heap.objs.size) := by
    have := Heap.get?_push_size (s.heap.push PySem.W.emptyDict) (o := PySem.W.instObj C s.heap.objs.size) rfl
    rwa [Heap.size_push] at this
  have e3:(s.heap.push PySem.W.emptyDict).Ns s.heap.objs.size (fun _ => none) := ⟨PySem.W.emptyDict,#[],_,e1,rfl,(fun e he => absurd he (by simp)),fun _ => rfl⟩
  have I1 := I.laid (a := s.heap.objs.size) (o := .own (s.heap.objs.size + 1)) (h' := s.heap.push PySem.W.emptyDict) (t' := s.toks) (fun b u q => Heap.get?_push_of_some _ q) (Nat.le_refl _) ⟨_,e1⟩
  refine I1.laid (a := s.heap.objs.size + 1) (o := .ins C s.heap.objs.size []) (t' := s.toks) (fun b u q => Heap.get?_push_of_some _ q) (Nat.le_of_eq (Heap.size_push _ _)) ?_
  have ne:s.heap.objs.size ≠ s.heap.objs.size + 1 := Nat.ne_of_lt (Nat.lt_succ_self _)
  refine ⟨by rw [zi ne,zn],Nat.zero_le _,ne,e2,fun _ => none,(Heap.Ns1.of_empty e3).at fun o q => Heap.get?_push_of_some _ q,fun _ => True.intro,fun y hy => absurd rfl hy⟩
theorem zbS {prog:Program} {w:World} {env:Env} {e:Expr} {f:Str} {pos:Pos} {s:Shared} {Q:Value → Shared → Prop} (hb:attributeBase e f env (eval e env) = eval e env)
    (h:wpAny (model prog w) A (eval e env) (fun o s₁ => wpAny (model prog w) A (getAttr o f true) Q E s₁) E s):wpAny (model prog w) A (eval (.Attribute e f pos) env) Q E s :=
  Attribute_any_ h (by rw [arm_eval_Attribute,hb])
end
noncomputable def Ks (K:PySem.W.Frag) (ta:TE) (f:Str):TE := fun σ H Q => ta σ H fun x H1 => ∃ a C dx fs v,x = .ref a ∧ H1 a = some (.ins C dx fs) ∧ Cls K C ∧ NoAttr K C f ∧ fs.lookup f = some v ∧ Q v H1
noncomputable def Kt (K:PySem.W.Frag) (ta tv:TE) (f:Str):TS := fun D σ H => tv σ H fun y H1 => ta σ H1 fun x H2 => ∃ a C dx fs,x = .ref a ∧ H2 a = some (.ins C dx fs) ∧ Cls K C ∧ NoAttr K C f ∧ fs.length < 1000 ∧
  D.nx σ (upd H2 a (.ins C dx (vc f y fs)))
section
variable {X:Cx} {o e value:Expr} {f:Str} {pos pos' tpos:Pos} {ta tv:TE}
theorem zds (he:PE X e ta) (hb:attributeBase e f X.env (eval e X.env) = eval e X.env):PE X (.Attribute e f pos) (Ks X.K ta f) := by
  intro pins s σ H Q I h
  refine zbS hb (thn (he pins s σ H _ I h) fun u s1 ⟨x,H1,I1,rx,a,C,dx,fs,v,ex,ea,c,n,l,q⟩ => ?_)
  subst ex
  obtain rfl:u = Value.ref a := rx
  exact U4 I1 ea c n l fun u' s2 I2 ru => ⟨v,H1,I2,ru,q⟩
theorem zdt (ha:PE X o ta) (hv:PE X value tv) (hs:swapsWith value (some (.Attribute o f pos')) pos.line X.env = pure false):PS X (.Assign [.Attribute o f pos'] value pos) (Kt X.K ta tv f) := by
  intro pins s σ H D I h
  refine plainObj_wpAny_Assign_Attribute (thn (hv pins s σ H _ I h) fun u s1 ⟨y,H1,I1,ry,q⟩ => thn (ha pins s1 σ H1 _ I1 q) fun ov s2 ⟨x,H2,I2,rx,a,C,dx,fs,ex,ea,c,n,l,q2⟩ => ?_) hs
  subst ex
  obtain rfl:ov = Value.ref a := rx
  exact U6 I2 ea c n l ry fun s3 I3 => ⟨σ,_,I3,q2⟩
end
section
variable {X:Cx} {pins:List (Addr × Obj)} {σ:St} {H:Hp} {s:Shared} {A:Around} {E:Value → Shared → Prop} {Q:Value → Shared → Prop} {c:Value} {b:Bool}
inductive TyOf (K:PySem.W.Frag) (H:Hp):V → Value → Prop where
  | non:TyOf K H .non (.type "NoneType")
  | bl (x:Bool):TyOf K H (.bl x) (.type "bool")
  | int (i:Int):TyOf K H (.int i) (.type "int")
  | str (x:Str):TyOf K H (.str x) (.type "str")
  | flt (x:UInt64):TyOf K H (.flt x) (.type "float")
  | lst {a:Addr} {xs:List V} (e:H a = some (.lst xs)):TyOf K H (.ref a) (.type "list")
  | frz {a:Addr} {o:Obj} {xs:List V} (e:H a = some (.frz o (.lst xs))):TyOf K H (.ref a) (.type "list")
  | tup {a:Addr} {xs:List V} (e:H a = some (.tup xs)):TyOf K H (.ref a) (.type "tuple")
  | dK {a:Addr} {kvs:List (Key × V)} (e:H a = some (.dK kvs)):TyOf K H (.ref a) (.type "dict")
  | dT {a:Addr} {kvs:List (List Key × V)} (e:H a = some (.dT kvs)):TyOf K H (.ref a) (.type "dict")
  | ins {a C dx:Addr} {fs:List (Str × V)} (e:H a = some (.ins C dx fs)) (cl:Cls K C) (ha:PySem.W.findIn K (.ref C) "__class__" = some (some (.builtin "object.__class__")))
      (hn:PySem.W.specialIn K (.builtin "object.__class__") "__get__" = some (some (.builtin "getset_descriptor.__get__"))) (htk:PySem.W.takesIn K (.builtin "object.__class__") = some true)
      (hm:PySem.W.mroIn K C (.type "object") = some true):TyOf K H (.ref a) (.ref C)
theorem Jl {x:V} {u t:Value} (I:Inv X pins σ H s) (rx:RelV x u) (ty:TyOf X.K H x t) (e:PySem.W.kitOne X.K t c = some b) (h:∀ tk,Q (.bool b) { s with toks := tk }) :
    wpAny (model X.prog X.w) A (call (.builtin "isinstance") [u,c]) Q E s := by
  cases ty with
  | non => cases (show u = Value.none from rx); exact PySem.W.kia_one PySem.W.kitx_none I.kIn True.intro e (fun z => nomatch z) h
  | bl y => cases (show u = Value.bool y from rx); exact PySem.W.kia_one PySem.W.kitx_bool I.kIn True.intro e (fun z => nomatch z) h
  | int i => obtain ⟨t,q⟩ := (show ∃ t,u = Value.int i t from rx); cases q; exact PySem.W.kia_one PySem.W.kitx_int I.kIn True.intro e (fun z => nomatch z) h
  | str y => obtain ⟨t,q⟩ := (show ∃ t,u = Value.str y t from rx); cases q; exact PySem.W.kia_one PySem.W.kitx_str I.kIn True.intro e (fun z => nomatch z) h
  | flt y => obtain ⟨t,q⟩ := (show ∃ t,u = Value.float y t from rx); cases q; exact PySem.W.kia_one PySem.W.kitx_float I.kIn True.intro e (fun z => nomatch z) h
  | @lst a xs ea =>
    cases (show u = Value.ref a from rx)
    obtain ⟨_,_,n,_,h1⟩ := (show yY X.prog X.w H s.heap a (.lst xs) from I.hok a _ ea)
    exact PySem.W.kia_one PySem.W.kitx_list I.kIn ⟨_,h1,rfl⟩ e (fun z => nomatch z) h
  | @frz a ob xs ea =>
    cases (show u = Value.ref a from rx)
    obtain ⟨_,_,_,n,_,h1⟩ := (show yY X.prog X.w H s.heap a (.frz ob (.lst xs)) from I.hok a _ ea)
    exact PySem.W.kia_one PySem.W.kitx_list I.kIn ⟨_,h1,rfl⟩ e (fun z => nomatch z) h
  | @tup a xs ea =>
    cases (show u = Value.ref a from rx)
    obtain ⟨_,_,_,p⟩ := (show yY X.prog X.w H s.heap a (.tup xs) from I.hok a _ ea)
    obtain ⟨o,h1,h2,_⟩ := p
    exact PySem.W.kia_one PySem.W.kitx_tuple I.kIn ⟨o,h1,h2⟩ e (fun z => nomatch z) h
  | @dK a kvs ea =>
    cases (show u = Value.ref a from rx)
    obtain ⟨_,_,vs,_,p⟩ := (show yY X.prog X.w H s.heap a (.dK kvs) from I.hok a _ ea)
    obtain ⟨o,es,ep,h1,h2,_⟩ := p
    exact PySem.W.kia_one PySem.W.kitx_dict I.kIn ⟨o,h1,h2.1⟩ e (fun z => nomatch z) h
  | @dT a kvs ea =>
    cases (show u = Value.ref a from rx)
    obtain ⟨_,_,xs,_,o,es,ep,h1,h2,_⟩ := (show yY X.prog X.w H s.heap a (.dT kvs) from I.hok a _ ea)
    exact PySem.W.kia_one PySem.W.kitx_dict I.kIn ⟨o,h1,h2.1⟩ e (fun z => nomatch z) h
  | @ins a C dx fs ea cl ha hn htk hm =>
    cases (show u = Value.ref a from rx)
    obtain ⟨mA,O,_⟩ := kM I.hok ea
    obtain ⟨od,J,_⟩ := O.look
    exact PySem.W.kia_one (PySem.W.kitx_own (cl.get _) cl.hd ha hn htk hm) I.kIn J e (fun z => nomatch z) h
end
end L2
namespace L2
open PySem PySem.Spec PyProof.Rows
structure Room (k:Nat) (A:Around):Prop where
  hd:A.handled = none
  dp:A.depth + 3 * k + 5 < recursionLimit
  un:A.units + 16 * k + 200 < cLine
  gd:A.guards = some []
theorem Room.mono {j k:Nat} {A:Around} (r:Room k A) (h:j ≤ k):Room j A := ⟨r.hd,by have := r.dp; omega,by have := r.un; omega,r.gd⟩
theorem Room.deeper {k:Nat} {A:Around} (r:Room (k + 1) A) (env:Env):Room k (A.deeper env) :=
  ⟨r.hd,by have := r.dp; show A.depth + 1 + 3 * k + 5 < _; omega,by have := r.un; show A.units + 3 + 16 * k + 200 < _; omega,r.gd⟩
theorem Room.in1 {k:Nat} {A:Around} (r:Room (k + 1) A):Room k A.in1 :=
  ⟨r.hd,by have := r.dp; show A.depth + 3 * k + 5 < _; omega,by have := r.un; show A.units + 1 + 16 * k + 200 < _; omega,r.gd⟩
theorem U7 {A:Around} {C:Addr} {us:List Value} {kw:List (Str × Value)}:(A.under (.builtin "type.__call__" ⟨.ref C :: us,kw⟩)).depth = A.depth + 1 := by
  first | rfl | simp [Around.under,Code.weight,Code.isCreation,Code.isGuard,Code.isCaller,Code.frames,Code.isFrame,guardIds]
theorem U8 {A:Around} {C:Addr} {us:List Value} {kw:List (Str × Value)}:(A.under (.builtin "type.__call__" ⟨.ref C :: us,kw⟩)).units = A.units + 1 := by
  first | rfl | simp [Around.under,Code.cUnits,Code.frames,Code.isFrame]
theorem V3 {A:Around} {C:Addr} {us:List Value} {kw:List (Str × Value)}:(A.under (.builtin "type.__call__" ⟨.ref C :: us,kw⟩)).guards = A.guards := by
  first | rfl | simp [Around.under,Code.guards,Code.isGuard,guardIds,pushGuards]
theorem Room.make {k:Nat} {A:Around} (r:Room (k + 1) A) (C:Addr) (us:List Value) (kw:List (Str × Value)):Room k (A.under (.builtin "type.__call__" ⟨.ref C :: us,kw⟩)) :=
  ⟨r.hd,by have := r.dp; rw [U7]; omega,by have := r.un; rw [U8]; omega,by rw [V3]; exact r.gd⟩
theorem Room.depth {k:Nat} {A:Around} (r:Room k A):A.depth < recursionLimit := by have := r.dp; omega
theorem Room.units {k:Nat} {A:Around} (r:Room k A):A.units + 64 < cLine := by have := r.un; omega
noncomputable def j4:TA := fun _ H Q => Q [] H
noncomputable def uJ (ta:TE) (tr:TA):TA := fun σ H Q => ta σ H fun x H1 => tr σ H1 fun xs H2 => Q (x :: xs) H2
section
variable {X:Cx} {e:Expr} {es:List Expr} {te:TE} {t:TA} {pos:Pos}
theorem zdu:PA X [] j4 := fun _ _ _ _ H Q I h => Calls.spliced_nil ⟨[],H,I,.nil,h⟩
theorem zbT (ha:PE X e te) (hr:PA X es t) (hs:starEach (e :: es) X.env = (false,eval e X.env) :: starEach es X.env := by rfl):PA X (e :: es) (uJ te t) := by
  intro pos pins s σ H Q I h
  rw [hs]
  show wpAny _ _ (spliced ((false,eval e X.env) :: backTo pos (starEach es X.env))) _ _ s
  refine Calls.spliced_cons (thn (ha pins s σ H _ I h) fun u s1 ⟨x,H1,I1,r1,q1⟩ => ?_)
  exact thn (hr pos pins s1 σ H1 _ I1 q1) fun us s2 ⟨xs,H2,I2,r2,q2⟩ => ⟨x :: xs,H2,I2,.cons r1 r2,q2⟩
noncomputable def U9 (t:TA):TE := fun σ H Q => t σ H fun xs H1 => xs.length ≤ sizeLine ∧ ∀ p,H1 p = none → Q (.ref p) (upd H1 p (.tup xs))
noncomputable def XH (t:TA):TE := fun σ H Q => t σ H fun xs H1 => xs.length ≤ sizeLine ∧ ∀ p,H1 p = none → Q (.ref p) (upd H1 p (.lst xs))
theorem Jm {x1} (h:PA X es t):PE X (.Tuple es x1 pos) (U9 t) := by
  intro pins s σ H Q I hq
  refine wpAny_Tuple_spliced (thn (h pos pins s σ H _ I hq) fun us s1 ⟨xs,H1,I1,r,z,q⟩ => ⟨by rw [← r.length]; exact z,?_⟩)
  have hf:H1 s1.heap.objs.size = none := I1.hok.fresh (Nat.le_refl _)
  refine ⟨.ref s1.heap.objs.size,upd H1 s1.heap.objs.size (.tup xs),I1.laid (t' := s1.toks) (fun b u e => Heap.get?_push_of_some _ e) (Nat.le_refl _) ?_,rfl,q _ hf⟩
  exact ⟨z,us,r,⟨_,Heap.get?_push_size _ rfl,rfl,_,rfl⟩⟩
theorem Jn (h:PA X es t):PE X (.List es pos) (XH t) := by
  intro pins s σ H Q I hq
  refine wpAny_List_spliced (thn (h pos pins s σ H _ I hq) fun us s1 ⟨xs,H1,I1,r,z,q⟩ => ⟨by rw [← r.length]; exact z,?_⟩)
  have hf:H1 s1.heap.objs.size = none := I1.hok.fresh (Nat.le_refl _)
  refine ⟨.ref s1.heap.objs.size,upd H1 s1.heap.objs.size (.lst xs),I1.laid (t' := s1.toks) (fun b u e => Heap.get?_push_of_some _ e) (Nat.le_refl _) ?_,rfl,q _ hf⟩
  exact ⟨z,us,0,r,Heap.get?_push_size _ rfl⟩
end
noncomputable abbrev Sp := List V → Hp → VK → XK → Prop
noncomputable abbrev CXT := List Env → Hp → Shared → XK → Value → Shared → Prop
structure Env0 (P:Program) (w:World) (K:PySem.W.Frag) (mg:Str → Option Value) (base:Heap) (A:Around) (outer:List Env) (s:Shared) (H:Hp):Prop where
  frames:A.frames = some outer
  mod:Mod K mg base
  bs:∀ b o,base.get? b = some o → s.heap.get? b = some o ∧ H b = none
  bsz:base.objs.size ≤ s.heap.objs.size
  funs:s.heap.FunFrames base outer
  frf:∀ b ∈ frs outer,H b = none
  hok:HOk P w H s.heap
  bare:AllBare s.gens
noncomputable def CE (outer:List Env) (P:Program) (w:World) (H:Hp) (s:Shared) (Q:VK) (u:Value) (s':Shared):Prop :=
  ∃ v H',s'.os = s.os ∧ AllBare s'.gens ∧ Un (frs outer) [] H H' s.heap s'.heap ∧ HOk P w H' s'.heap ∧ RelV v u ∧ Q v H'
noncomputable def CR (CX:CXT) (outer:List Env) (P:Program) (w:World) (H:Hp) (s:Shared) (Q:VK) (E:XK) (r:Result) (s':Shared):Prop :=
  match r with
  | .ok (.ret u) => CE outer P w H s Q u s'
  | .ok _ => False
  | .error e => CX outer H s E e s'
structure FnOk (P:Program) (w:World) (K:PySem.W.Frag) (mg:Str → Option Value) (base:Heap) (CX:CXT) (k:Nat) (f:Addr) (fd:FuncData) (ps:List Str) (sp:Sp):Prop where
  len:∀ vs H Q E,sp vs H Q E → vs.length = ps.length
  run:∀ (A:Around) (outer:List Env) (s:Shared) (H:Hp) (args:Args) (us:List Value) (vs:List V) (Q:VK) (E:XK),Room k A → Env0 P w K mg base A outer s H → BindsTo s fd args (ps.zip us) → Vals vs us → sp vs H Q E →
    codeAny (model P w) A (.call (.ref f) args) (CR CX outer P w H s Q E) s
theorem FnOk.mono {P:Program} {w:World} {K:PySem.W.Frag} {mg:Str → Option Value} {base:Heap} {CX:CXT} {j k:Nat} {f:Addr} {fd:FuncData} {ps:List Str} {sp:Sp} (F:FnOk P w K mg base CX j f fd ps sp) (h:j ≤ k) :
    FnOk P w K mg base CX k f fd ps sp := ⟨F.len,fun A outer s H args us vs Q E hr => F.run A outer s H args us vs Q E (hr.mono h)⟩
theorem FnOk.imp {P:Program} {w:World} {K:PySem.W.Frag} {mg:Str → Option Value} {base:Heap} {CX:CXT} {k:Nat} {f:Addr} {fd:FuncData} {ps:List Str} {sp sp':Sp} (F:FnOk P w K mg base CX k f fd ps sp)
    (h:∀ vs H Q E,sp' vs H Q E → sp vs H Q E):FnOk P w K mg base CX k f fd ps sp' :=
  ⟨fun vs H Q E q => F.len vs H Q E (h _ _ _ _ q),fun A outer s H args us vs Q E hr he hb hv hs => F.run A outer s H args us vs Q E hr he hb hv (h _ _ _ _ hs)⟩
theorem Env0.make {P:Program} {w:World} {K:PySem.W.Frag} {mg:Str → Option Value} {base:Heap} {A:Around} {outer:List Env} {s:Shared} {H:Hp} (e:Env0 P w K mg base A outer s H) (C:Addr) (us:List Value) (kw:List (Str × Value)) :
    Env0 P w K mg base (A.under (.builtin "type.__call__" ⟨.ref C :: us,kw⟩)) outer s H := ⟨by first | exact e.frames | (simpa [Around.under,Code.envs,Code.isFrame,pushEnvs] using e.frames),e.mod,e.bs,e.bsz,e.funs,e.frf,e.hok,e.bare⟩
theorem Env0.in1 {P:Program} {w:World} {K:PySem.W.Frag} {mg:Str → Option Value} {base:Heap} {A:Around} {outer:List Env} {s:Shared} {H:Hp} (e:Env0 P w K mg base A outer s H) :
    Env0 P w K mg base A.in1 outer s H := ⟨e.frames,e.mod,e.bs,e.bsz,e.funs,e.frf,e.hok,e.bare⟩
section
variable {X:Cx} {pins:List (Addr × Obj)} {σ:St} {H:Hp} {s s':Shared}
theorem Inv.env0 (I:Inv X pins σ H s):Env0 X.prog X.w X.K X.mg X.base X.A X.stack s H :=
  ⟨I.ok.frames,I.ok.mod,I.bs,Nat.le_trans I.ok.bsz I.sz,I.stack,I.stkFree,I.hok,I.bare⟩
theorem Inv.after {Q:VK} {u:Value} (I:Inv X pins σ H s) (h:CE X.stack X.prog X.w H s Q u s'):EP X pins σ Q u s' := by
  obtain ⟨v,H',os,bare,un,hok,r,q⟩ := h
  obtain ⟨hh,g,d,t,os'⟩ := s'
  obtain rfl:os' = s.os := os
  exact ⟨v,H',I.call (h' := hh) (g' := g) (d' := d) (t' := t) (ch := []) un hok bare (fun b z => absurd z (by simp)),r,q⟩
end
noncomputable def ZC (sp:Sp) (dvs:List V) (E:XK) (t:TA):TE := fun σ H Q => t σ H fun vs H1 => sp (vs ++ dvs) H1 Q E
noncomputable def Qa (C:Addr) (m:Str) (sp:Sp) (dvs:List V) (E:XK) (ta:TE) (t:TA):TE := fun σ H Q => ta σ H fun x H1 => ∃ a dx fs,x = .ref a ∧ H1 a = some (.ins C dx fs) ∧ fs.lookup m = none ∧
  t σ H1 fun vs H2 => sp (x :: (vs ++ dvs)) H2 Q E
noncomputable def Qb (C:Addr) (sp:Sp) (dvs:List V) (E:XK) (t:TA):TE := fun σ H Q => t σ H fun vs H1 => ∀ x dx,H1 x = none → H1 dx = none → dx ≠ x →
  sp (.ref x :: (vs ++ dvs)) (upd (upd H1 dx (.own x)) x (.ins C dx [])) (fun v H2 => v = .non ∧ Q (.ref x) H2) E
noncomputable def Binds (K:PySem.W.Frag) (fd:FuncData) (ps:List Str) (ds:List Value):Prop :=
  ∀ (s:Shared) (us:List Value),K.In s.heap → (us ++ ds).length = ps.length → BindsTo s fd ⟨us,[]⟩ (ps.zip (us ++ ds))
theorem Binds.all {K:PySem.W.Frag} {fd:FuncData} {ps:List Str} (h:∀ us:List Value,us.length = ps.length → bindArgs fd ⟨us,[]⟩ = pure (ps.zip us)):Binds K fd ps [] := fun s us _ hl => by
  rw [List.append_nil] at hl ⊢
  exact .of_eq (h us hl)
noncomputable def uQ (CX:CXT) (X:Cx) (E:XK):Prop := ∀ (pins:List (Addr × Obj)) (σ:St) (H:Hp) (s:Shared) (e:Value) (s':Shared),Inv X pins σ H s → CX X.stack H s E e s' → X.xe e s'
section
variable {X:Cx} {CX:CXT} {k:Nat} {f C:Addr} {fd:FuncData} {ps:List Str} {sp:Sp} {dvs:List V} {ds:List Value} {E:XK} {x m:Str} {p pos apos:Pos} {e o:Expr} {es:List Expr} {ta:TE} {t:TA}
theorem Jo {pins:List (Addr × Obj)} {σ:St} {H:Hp} {s:Shared} {Q:VK} {us:List Value} {vs:List V} (F:FnOk X.prog X.w X.K X.mg X.base CX k f fd ps sp) (hr:Room k X.A) (hb:Binds X.K fd ps ds) (hd:Vals dvs ds) (hx:uQ CX X E)
    (I:Inv X pins σ H s) (r:Vals vs us) (h:sp (vs ++ dvs) H Q E):wpAny (model X.prog X.w) X.A (call (.ref f) us) (EP X pins σ Q) X.xe s := by
  have r2:Vals (vs ++ dvs) (us ++ ds) := r.append hd
  have hl:(us ++ ds).length = ps.length := by rw [← r2.length]; exact F.len _ _ _ _ h
  refine wpAny_call (codeAny_mono (F.run X.A X.stack s H ⟨us,[]⟩ (us ++ ds) (vs ++ dvs) Q E hr I.env0 (hb s us I.kIn hl) r2 h) fun r s' hq => ?_)
  cases r with
  | error e => exact hx pins σ H s e s' I hq
  | ok fl =>
    cases fl with
    | ret u => exact I.after hq
    | next => exact False.elim hq
    | brk => exact False.elim hq
    | cont => exact False.elim hq
theorem zbU (F:FnOk X.prog X.w X.K X.mg X.base CX k f fd ps sp) (hr:Room k X.A) (hg:Gl X x) (hm:X.mg x = some (.ref f)) (hk:PySem.W.keepIn X.K (.ref f) = true) (hb:Binds X.K fd ps ds) (hd:Vals dvs ds) (hx:uQ CX X E)
    (ha:PA X (e :: es) t) (hdb:(x == ("__debug__":Str)) = false := by decide) (he:starEach (e :: es) X.env = (false,eval e X.env) :: starEach es X.env := by rfl) (hpl:(backTo pos (starEach es X.env)).any (·.1) = false := by rfl) :
    PE X (.Call (.Name x p) (e :: es) [] pos) (ZC sp dvs E t) := by
  intro pins s σ H Q I h
  refine wpAny_Call_Name_kw (Yh I hg hm ?_ hdb)
  refine PySem.W.callWith_K (h₀ := X.base) I.ok.mod.kin hk (thn (ha pos pins s σ H _ I h) fun us s1 ⟨vs,H1,I1,r,q⟩ => ⟨I1.kIn,?_⟩) he hpl
  exact Jo F hr hb hd hx I1 r q
theorem Ku {pl:Sem Bool} (he:PE X o ta) (c:Cls X.K C) (hm:Meth X.K C m f) (F:FnOk X.prog X.w X.K X.mg X.base CX k f fd ps sp) (hr:Room k X.A) (hb:Binds X.K fd ps ds) (hd:Vals dvs ds) (hx:uQ CX X E)
    (ht:eval (.Call (.Attribute o m apos) [] [] pos) X.env = (do
      let ov ← eval o X.env
      standAt apos.atName
      let (f,first) ← holding [ov] (getMethod ov m pl)
      callWith pos f first (backTo pos (starEach [] X.env)) (backToKw pos (keywordEach [] X.env))) := by rfl) :
    PE X (.Call (.Attribute o m apos) [] [] pos) (Qa C m sp dvs E ta j4) := by
  intro pins s σ H Q I h
  refine PySem.W.methodCall_KW (pl := pl) (thn (he pins s σ H _ I h) fun u s1 ⟨x,H1,I1,rx,a,dx,fs,ex,ea,l,q⟩ => ?_) ht
  subst ex
  obtain rfl:u = Value.ref a := rx
  refine U5 I1 ea c hm l ?_
  exact PySem.W.callWith_K0 (first := [.ref a]) I1.kIn hm.kp (Jo (us := [.ref a]) (vs := [.ref a]) F hr hb hd hx I1 (.cons rfl .nil) q)
structure Mk (K:PySem.W.Frag) (C f:Addr):Prop where
  makes:PySem.W.makesIn K C = true
  init:PySem.W.findIn K (.ref C) "__init__" = some (some (.ref f))
  fn:PySem.W.isFn K (.ref f) = true
  kp:PySem.W.keepIn K (.ref C) = true
theorem Kv {pins:List (Addr × Obj)} {σ:St} {H:Hp} {s:Shared} {Q:VK} {us:List Value} {vs:List V} (M:Mk X.K C f) (F:FnOk X.prog X.w X.K X.mg X.base CX k f fd ps sp) (hr:Room (k + 1) X.A) (hb:Binds X.K fd ps ds) (hd:Vals dvs ds)
    (hx:uQ CX X E) (I:Inv X pins σ H s) (r:Vals vs us)
    (h:∀ x dx,H x = none → H dx = none → dx ≠ x → sp (.ref x :: (vs ++ dvs)) (upd (upd H dx (.own x)) x (.ins C dx [])) (fun v H2 => v = .non ∧ Q (.ref x) H2) E) :
    wpAny (model X.prog X.w) X.A (call (.ref C) us) (EP X pins σ Q) X.xe s := by
  have hq := h (s.heap.objs.size + 1) s.heap.objs.size (I.hok.fresh (Nat.le_succ _)) (I.hok.fresh (Nat.le_refl _)) (Nat.ne_of_lt (Nat.lt_succ_self _))
  have I2 := Inv.made (C := C) I
  have r2:Vals (V.ref (s.heap.objs.size + 1) :: (vs ++ dvs)) (Value.ref (s.heap.objs.size + 1) :: (us ++ ds)) := .cons rfl (r.append hd)
  have hl:(Value.ref (s.heap.objs.size + 1) :: us ++ ds).length = ps.length := by
    have e := r2.length
    rw [F.len _ _ _ _ hq] at e
    exact e.symm
  refine wpAny_call (Kr (f := f) I.kIn M.makes M.init (beq_iff_eq.mp M.fn) (codeAny_mono (F.run _ X.stack _ _ ⟨Value.ref (s.heap.objs.size + 1) :: us,[]⟩ (Value.ref (s.heap.objs.size + 1) :: (us ++ ds)) _ _ E (hr.make C us [])
    (I2.env0.make C us []) (hb _ (Value.ref (s.heap.objs.size + 1) :: us) I2.kIn hl) r2 hq) fun r s' hq' => ?_))
  cases r with
  | error e => exact hx pins σ _ _ e s' I2 hq'
  | ok fl =>
    cases fl with
    | ret u =>
      obtain ⟨v,H',I3,rv,ev,q3⟩ := I2.after hq'
      subst ev
      exact ⟨rv,⟨V.ref (s.heap.objs.size + 1),H',I3,rfl,q3⟩⟩
    | next => exact False.elim hq'
    | brk => exact False.elim hq'
    | cont => exact False.elim hq'
theorem zbV (M:Mk X.K C f) (F:FnOk X.prog X.w X.K X.mg X.base CX k f fd ps sp) (hr:Room (k + 1) X.A) (hg:Gl X x) (hm:X.mg x = some (.ref C)) (hb:Binds X.K fd ps ds) (hd:Vals dvs ds) (hx:uQ CX X E)
    (ha:PA X (e :: es) t) (hdb:(x == ("__debug__":Str)) = false := by decide) (he:starEach (e :: es) X.env = (false,eval e X.env) :: starEach es X.env := by rfl) (hpl:(backTo pos (starEach es X.env)).any (·.1) = false := by rfl) :
    PE X (.Call (.Name x p) (e :: es) [] pos) (Qb C sp dvs E t) := by
  intro pins s σ H Q I h
  refine wpAny_Call_Name_kw (Yh I hg hm ?_ hdb)
  refine PySem.W.callWith_K (h₀ := X.base) I.ok.mod.kin M.kp (thn (ha pos pins s σ H _ I h) fun us s1 ⟨vs,H1,I1,r,q⟩ => ⟨I1.kIn,?_⟩) he hpl
  exact Kv M F hr hb hd hx I1 r q
end
section
variable {X:Cx} {CX:CXT} {k:Nat} {f C:Addr} {fd:FuncData} {ps ks:List Str} {sp:Sp} {E:XK} {x m:Str} {p pos apos kpos:Pos} {e o:Expr} {es:List Expr} {kws:List Keyword} {te ta:TE} {t tk:TA} {nm:Option Str}
variable {g:List Value → List Value → List Value} {gV:List V → List V → List V}
end
structure FnScope (N P:List Str) (sc:Scope):Prop where
  kind:sc.kind = .function
  co:sc.isCoroutine = false
  gen:sc.isGenerator = false
  nd:N.Nodup
  pre:N.take P.length = P
  par:∀ x ∈ P,sc.names.lookup x = some .local ∨ sc.names.lookup x = some .cell
  nofree:∀ y ∈ sc.names,y.2 ≠ .free
theorem YQ {kindOf:Str → Option NameKind} {x:Str}:∀ {binds:List (Str × Value)} {m:Str → Option Value},(∀ v,(x,v) ∉ binds) → bindL kindOf binds m x = m x
  | [],_,_ => rfl
  | (n,v) :: r,m,h => by
    unfold bindL
    rw [YQ fun w hw => h w (List.mem_cons_of_mem _ hw)]
    split
    · have:x ≠ n := by rintro rfl; exact h v List.mem_cons_self
      simp [this]
    · rfl
theorem YR {kindOf:Str → Option NameKind} {x:Str}:∀ {binds:List (Str × Value)} {m:Str → Option Value},(∀ v,(x,v) ∉ binds) → bindC kindOf binds m x = m x
  | [],_,_ => rfl
  | (n,v) :: r,m,h => by
    unfold bindC
    rw [YR fun w hw => h w (List.mem_cons_of_mem _ hw)]
    split
    · rfl
    · have:x ≠ n := by rintro rfl; exact h v List.mem_cons_self
      simp [this]
theorem YS {kindOf:Str → Option NameKind} {x:Str} {v:Value}:∀ {P:List Str} {vs:List Value} {i:Nat} {m:Str → Option Value},P.Nodup → P[i]? = some x → vs[i]? = some v → kindOf x = some .local →
    bindL kindOf (P.zip vs) m x = some v
  | [],_,_,_,_,h,_,_ => by simp at h
  | _ :: _,[],_,_,_,_,h,_ => by simp at h
  | p :: P,w :: vs,0,m,nd,h1,h2,hk => by
    simp at h1 h2; subst h1; subst h2
    show bindL kindOf ((p,w) :: P.zip vs) m p = _
    unfold bindL
    rw [YQ fun v hv => (List.nodup_cons.mp nd).1 (List.of_mem_zip hv).1,if_pos hk]
    simp
  | p :: P,w :: vs,i + 1,m,nd,h1,h2,hk => by
    show bindL kindOf ((p,w) :: P.zip vs) m x = _
    unfold bindL
    exact YS (i := i) (List.nodup_cons.mp nd).2 (by simpa using h1) (by simpa using h2) hk
theorem YT {kindOf:Str → Option NameKind} {x:Str} {v:Value}:∀ {P:List Str} {vs:List Value} {i:Nat} {m:Str → Option Value},P.Nodup → P[i]? = some x → vs[i]? = some v → kindOf x ≠ some .local →
    bindC kindOf (P.zip vs) m x = some v
  | [],_,_,_,_,h,_,_ => by simp at h
  | _ :: _,[],_,_,_,_,h,_ => by simp at h
  | p :: P,w :: vs,0,m,nd,h1,h2,hk => by
    simp at h1 h2; subst h1; subst h2
    show bindC kindOf ((p,w) :: P.zip vs) m p = _
    unfold bindC
    rw [YR fun v hv => (List.nodup_cons.mp nd).1 (List.of_mem_zip hv).1,if_neg hk]
    simp
  | p :: P,w :: vs,i + 1,m,nd,h1,h2,hk => by
    show bindC kindOf ((p,w) :: P.zip vs) m x = _
    unfold bindC
    exact YT (i := i) (List.nodup_cons.mp nd).2 (by simpa using h1) (by simpa using h2) hk
noncomputable def start (N:List Str) (vs:List V):St := vs.map some ++ List.replicate (N.length - vs.length) none
noncomputable def uR (CX:CXT) (P:Program) (w:World) (K:PySem.W.Frag) (mg:Str → Option Value) (base:Heap) (N:List Str) (qual:Str) (scope:Scope) (f:Addr) (cd:Value) (A:Around) (outer:List Env) (s:Shared) (H:Hp) (E:XK):Cx where
  prog := P
  w := w
  K := K
  mg := mg
  base := base
  A := A.deeper (envOfC qual scope s.heap.objs.size f cd)
  N := N
  s₀ := s
  H₀ := H
  env := envOfC qual scope s.heap.objs.size f cd
  outer := outer
  stack := envOfC qual scope s.heap.objs.size f cd :: outer
  ex := []
  calm := true
  fn := fun _ => true
  pn := []
  xe := fun e s' => wpAny (model P w) (A.deeper (envOfC qual scope s.heap.objs.size f cd)) (leaving (envOfC qual scope s.heap.objs.size f cd) e) (fun _ s'' => CX outer H s E e s'') (fun e' s'' => CX outer H s E e' s'') s'
theorem XI {sc:Scope} {n:Nat} {x:Str} (h:sc.names.lookup x = some .cell):∃ c,(cellsFrom n sc.names []).lookup x = some c := by
  have q := PySem.W.cellsFrom_some sc.names n [] (.inl h)
  exact Option.isSome_iff_exists.mp q
theorem Jp {CX:CXT} {P:Program} {w:World} {K:PySem.W.Frag} {mg:Str → Option Value} {base:Heap} {N ps:List Str} {qual:Str} {scope:Scope} {f:Addr} {cd:Value} {A:Around} {outer:List Env} {s s1:Shared} {H:Hp} {E:XK} {us:List Value} {vs:List V}
    (S:FnScope N ps scope) (hd:A.handled = none) (e0:Env0 P w K mg base A outer s H) (hl:vs.length = ps.length) (r:Vals vs us)
    (x:InCallC s s.heap.objs.size (bindL (envOfC qual scope s.heap.objs.size f cd).kindOf (ps.zip us) fun _ => none) (cellsFrom (s.heap.objs.size + 1) scope.names []) (bindC (envOfC qual scope s.heap.objs.size f cd).kindOf (ps.zip us) fun _ => none) s1) :
    Inv (uR CX P w K mg base N qual scope f cd A outer s H E) [] (start N vs) H s1 := by
  have hpl:ps.length ≤ N.length := by have := congrArg List.length S.pre; rw [List.length_take] at this; omega
  obtain ⟨h1,tk,rfl,hk⟩ := x.done
  have noA:∀ b:Addr,b ∉ (uR CX P w K mg base N qual scope f cd A outer s H E).ex := fun b z => absurd (show b ∈ ([]:List Addr) from z) (by simp)
  refine ⟨⟨e0.mod,S.kind,rfl,rfl,Nat.le_refl _,fun y z c h1 h2 => ?_,fun y hy => ?_,fun y c _ h => ?_,fun _ => hd,Around.frames_deeper e0.frames,.inr ⟨rfl,rfl⟩,fun b z => absurd z (noA b),e0.bs,e0.bsz,fun b _ _ => noA b,fun b z => absurd z (noA b),e0.funs,e0.frf⟩,
    rfl,e0.bare,Un.kept hk,⟨_,x.toInCall.ns,fun i y v h1 h2 h3 => ?_⟩,fun y c h => ⟨_,x.cell y c h⟩,e0.hok.fresh (Nat.le_refl _),fun y c h => ?_,fun p hp => absurd (show p ∈ ([]:List (Addr × Obj)) from hp) (by simp),e0.hok.kept hk,?_⟩
  · exact name_of_addr x.apart (PySem.mem_of_lookup h1) (PySem.mem_of_lookup h2)
  · have hy:scope.names.lookup y = some .cell ∨ scope.names.lookup y = some .free := hy
    rcases hy with hy | hy
    · exact XI hy
    · exact absurd rfl (S.nofree _ (PySem.mem_of_lookup hy))
  · exact Nat.le_of_lt (x.above y c (PySem.mem_of_lookup h))
  · have hi:i < vs.length := by
      unfold start at h2
      by_cases hi:i < vs.length
      · exact hi
      · rw [List.getElem?_append_right (by simpa using hi)] at h2
        rw [List.getElem?_replicate] at h2
        split at h2 <;> cases h2
    have ha:vs[i]? = some v := by
      unfold start at h2
      rw [List.getElem?_append_left (by simpa using hi),List.getElem?_map] at h2
      cases e:vs[i]? with
      | none => rw [e] at h2; cases h2
      | some a => rw [e] at h2; cases h2; rfl
    obtain ⟨u,hu,rv⟩ := r.get ha
    have hp:ps[i]? = some y := by
      rw [← S.pre,List.getElem?_take_of_lt (by omega)]; exact h1
    have ndP:ps.Nodup := by rw [← S.pre]; exact S.nd.sublist (List.take_sublist _ _)
    refine ⟨u,rv,?_⟩
    rcases S.par y (List.mem_of_getElem? hp) with k | k
    · exact .inl ⟨k,YS ndP hp hu k⟩
    · obtain ⟨c,e⟩ := XI (n := s.heap.objs.size + 1) k
      refine .inr ⟨.inl k,c,e,?_⟩
      have q := x.cell y c e
      rw [YT ndP hp hu (by show scope.names.lookup y ≠ _; rw [k]; decide)] at q
      exact q
  · exact e0.hok.fresh (Nat.le_of_lt (x.above y c (PySem.mem_of_lookup h)))
  · unfold start
    show _ = N.length
    rw [List.length_append,List.length_map,List.length_replicate]
    omega
theorem zaZ {CX:CXT} {P:Program} {w:World} {K:PySem.W.Frag} {mg:Str → Option Value} {base:Heap} {k:Nat} {f:Addr} {name qual:Str} {params:Arguments} {body:List Stmt} {scope:Scope} {dV kV doc pm cdv ct oc:Value} {an od:Option Addr}
    {osl:Array (Option Value)} {N ps:List Str} {sp:Sp} (lk:K.lookup f = some ⟨oc,od,.func (PySem.W.fnOf name qual params body scope dV kV doc pm an cdv ct),osl⟩) (hcd:PySem.W.codeIn K cdv qual = true) (S:FnScope N ps scope)
    (len:∀ vs H Q E,sp vs H Q E → vs.length = ps.length)
    (hbody:∀ (A:Around) (outer:List Env) (s:Shared) (H:Hp) (vs:List V) (Q:VK) (E:XK),Room k (A.deeper (envOfC qual scope s.heap.objs.size f cdv)) → sp vs H Q E →
      ∃ t,PSs (uR CX P w K mg base N qual scope f cdv A outer s H E) body t ∧ t { nx := fun _ H' => Q .non H',rt := Q } (start N vs) H) :
    FnOk P w K mg base CX (k + 1) f (PySem.W.fnOf name qual params body scope dV kV doc pm an cdv ct) ps sp := by
  refine ⟨len,fun A outer s H args us vs Q E hr e0 hb r hsp => ?_⟩
  have hl := len _ _ _ _ hsp
  have KX:K.In s.heap := e0.mod.kin.keeps fun b o e => (e0.bs b o e).1
  have lim:s.heap.NoLimit := e0.mod.nolimit.keeps fun b o e => (e0.bs b o e).1
  have hkind:∀ y ∈ ps.zip us,scope.names.lookup y.1 = some .local ∨ (scope.names.lookup y.1 = some .cell ∧ ((cellsFrom (s.heap.objs.size + 1) scope.names []).lookup y.1).isSome = true) := fun ⟨n,v⟩ hy => by
    rcases S.par n (List.of_mem_zip hy).1 with q | q
    · exact .inl q
    · exact .inr ⟨q,PySem.W.cellsFrom_some _ _ _ (.inl q)⟩
  refine codeAny_call_function hr.depth (KX _ _ lk) rfl S.co S.gen rfl (PySem.W.codeRec_of KX hcd) (hb _ _ _ _ ?_)
  refine wpAny_newFunctionEnv_cells S.kind hkind fun env he s1 x => ?_
  subst he
  refine ⟨lim.keeps x.toInCall.keep,codeAny_func ?_⟩
  obtain ⟨t,ht,hq⟩ := hbody A outer s H vs Q E (hr.deeper _) hsp
  have I:Inv (uR CX P w K mg base N qual scope f cdv A outer s H E) [] (start N vs) H s1 := Jp S hr.hd e0 hl r x
  refine wpAny_mono (ht [] s1 (start N vs) H _ I hq) (fun fl s' hs => ?_) fun e s' hs => hs
  have fin:∀ {σ':St} {H':Hp} {v:V} {u:Value},Inv (uR CX P w K mg base N qual scope f cdv A outer s H E) [] σ' H' s' → RelV v u → Q v H' → CE outer P w H s Q u s' :=
    fun {σ' H' v u} J rv q => ⟨v,H',J.os,J.bare,J.base,J.hok,rv,q⟩
  cases fl with
  | ret u =>
    obtain ⟨v,σ',H',J,rv,q⟩ := hs
    exact fin J rv q
  | next =>
    obtain ⟨σ',H',J,q⟩ := hs
    exact fin (v := V.non) (u := Value.none) J rfl q
  | brk =>
    obtain ⟨_,_,_,q⟩ := hs
    exact False.elim q
  | cont =>
    obtain ⟨_,_,_,q⟩ := hs
    exact False.elim q
end L2
namespace L2
open PySem PySem.Spec PyProof.Rows
section
variable {X:Cx} {x:Str} {p pos:Pos} {e:Expr} {es:List Expr} {t:TA} {id T:String} {r:List V → Hp → VK → Prop}
noncomputable def tCB (r:List V → Hp → VK → Prop) (t:TA):TE := fun σ H Q => t σ H fun vs H1 => r vs H1 Q
theorem yI (hc:y9 X (.builtin id) r) (hg:Gl X x) (hm:X.mg x = none) (hv:bootBuiltins x = some (.builtin id)) (ha:PA X (e :: es) t) (hn:x ≠ "__name__" := by decide) (hdb:(x == ("__debug__":Str)) = false := by decide)
    (he:starEach (e :: es) X.env = (false,eval e X.env) :: starEach es X.env := by rfl) (hpl:(backTo pos (starEach es X.env)).any (·.1) = false := by rfl):PE X (.Call (.Name x p) (e :: es) [] pos) (tCB r t) := by
  intro pins s σ H Q I h
  refine wpAny_Call_Name_kw (vY I hg hm hv ?_ hn hdb)
  exact PyProof.Rows.callWith_builtin1 (thn (ha pos pins s σ H _ I h) fun us s1 ⟨vs,H1,I1,r1,q1⟩ => hc pins s1 σ H1 vs us Q I1 r1 q1) he hpl
theorem xQ (hc:y9 X (.type T) r) (hg:Gl X x) (hm:X.mg x = none) (hv:bootBuiltins x = some (.type T)) (ha:PA X (e :: es) t) (hn:x ≠ "__name__" := by decide) (hdb:(x == ("__debug__":Str)) = false := by decide)
    (he:starEach (e :: es) X.env = (false,eval e X.env) :: starEach es X.env := by rfl) (hpl:(backTo pos (starEach es X.env)).any (·.1) = false := by rfl):PE X (.Call (.Name x p) (e :: es) [] pos) (tCB r t) := by
  intro pins s σ H Q I h
  refine wpAny_Call_Name_kw (vY I hg hm hv ?_ hn hdb)
  exact PyProof.Rows.callWith_type1 (thn (ha pos pins s σ H _ I h) fun us s1 ⟨vs,H1,I1,r1,q1⟩ => hc pins s1 σ H1 vs us Q I1 r1 q1) he hpl
end
end L2
namespace HT
open PySem PyProof.Rows
section
open PySem.SeqAt
open PySem.AutoSeq1 (wpAny_loadPart')
open PySem.MeetsSeq PySem.MeetsSeq2 PySem.MeetsSeq3
end
section
variable {prog:Program} {w:World} {A:Around} {E:Value → Shared → Prop} {s:Shared}
noncomputable def sIx (n d:Nat):Option Int → Nat
  | none => d
  | some v => if v < 0 then (v + (n:Int)).toNat else min v.toNat n
end
end HT
namespace L2
open PySem PySem.Spec PyProof.Rows
noncomputable abbrev TO := St → Hp → (Option Int → Hp → Prop) → Prop
noncomputable def PO (X:Cx) (e:Option Expr) (t:TO):Prop :=
  ∀ (pins:List (Addr × Obj)) (s:Shared) (σ:St) (H:Hp) (Q:Option Int → Hp → Prop),Inv X pins σ H s → t σ H Q →
    wpAny (model X.prog X.w) X.A (evalPart e X.env) (fun u s' => ∃ o H',Inv X pins σ H' s' ∧ IsPart u o ∧ Q o H') X.xe s
noncomputable def za0 (t:TE):TO := fun σ H Q => t σ H fun x H1 => ∃ i,x = .int i ∧ Q (some i) H1
section
variable {X:Cx} {e:Expr} {te:TE} {lo hi:Option Expr} {tl th:TO} {pos p2:Pos}
theorem Uw (h:PE X e te):PO X (some e) (za0 te) := by
  intro pins s σ H Q I hw
  rw [evalPart_some]
  refine thn (h pins s σ H _ I hw) fun u s1 ⟨x,H1,I1,r1,q1⟩ => ?_
  obtain ⟨i,rfl,q⟩ := q1
  obtain ⟨t,rfl⟩ := r1
  exact ⟨some i,H1,I1,.int i t,q⟩
noncomputable def SlR (X:Cx) (r:V → Option Int → Option Int → Hp → VK → Prop):Prop :=
  ∀ (pins:List (Addr × Obj)) (s:Shared) (σ:St) (H:Hp) (x:V) (v vl vu:Value) (lo hi:Option Int) (sl:Addr) (Q:VK),Inv X pins σ H s → RelV x v → s.heap.IsSliceOf sl vl vu .none → IsPart vl lo → IsPart vu hi → r x lo hi H Q →
    ∃ T id,typeLookup (.type T) "__getitem__" = pure (some (.builtin id)) ∧ s.TypeIs v T ∧ wpAny (model X.prog X.w) X.A (getItem v (.ref sl)) (EP X pins σ Q) X.xe s
theorem SlR.or {r r':V → Option Int → Option Int → Hp → VK → Prop} (h:SlR X r) (h':SlR X r'):SlR X (fun x lo hi H Q => r x lo hi H Q ∨ r' x lo hi H Q) := by
  intro pins s σ H x v vl vu lo hi sl Q I rx hs pl pu q
  rcases q with q | q
  · exact h pins s σ H x v vl vu lo hi sl Q I rx hs pl pu q
  · exact h' pins s σ H x v vl vu lo hi sl Q I rx hs pl pu q
noncomputable def tSl (r:V → Option Int → Option Int → Hp → VK → Prop) (te:TE) (tl th:TO):TE := fun σ H Q => te σ H fun x H1 => tl σ H1 fun l H2 => th σ H2 fun u H3 => r x l u H3 Q
theorem Kw {r:V → Option Int → Option Int → Hp → VK → Prop} (hr:SlR X r) (he:PE X e te) (hl:PO X lo tl) (hu:PO X hi th):PE X (.Subscript e (.Slice lo hi none p2) pos) (tSl r te tl th) := by
  intro pins s σ H Q I h
  refine Subscript_ (thn (he pins s σ H _ I h) fun v s1 ⟨x,H1,I1,r1,q1⟩ => ?_)
  refine wpAny_Slice (thn (hl pins s1 σ H1 _ I1 q1) fun vl s2 ⟨l,H2,I2,pl,q2⟩ => thn (hu pins s2 σ H2 _ I2 q2) fun vu s3 ⟨u,H3,I3,pu,q3⟩ => ?_)
  rw [evalPart_none]
  refine wpAny_pure ?_
  have I4:Inv X pins σ H3 { s3 with heap := s3.heap.push { cls := .type "slice",data := .fields #[vl,vu,.none] } } := I3.kept (t' := s3.toks) fun b ob q => Heap.get?_push_of_some _ q
  obtain ⟨T,id,hT,ht,hg⟩ := hr pins { s3 with heap := s3.heap.push { cls := .type "slice",data := .fields #[vl,vu,.none] } } σ H3 x v vl vu l u s3.heap.objs.size Q I4 r1 (Heap.IsSliceOf.new ..) pl pu q3
  show wpAny (model X.prog X.w) X.A (subscriptTail e (.Slice lo hi none p2) v (.ref s3.heap.objs.size)) (EP X pins σ Q) X.xe { s3 with heap := s3.heap.push { cls := .type "slice",data := .fields #[vl,vu,.none] } }
  exact tail_any (ops := [.ref s3.heap.objs.size,v]) ht hT hg (by with_unfolding_all rfl)
noncomputable def Yl (xs:List V) (lo hi:Option Int):List V := (xs.drop (HT.sIx xs.length 0 lo)).take (HT.sIx xs.length xs.length hi - HT.sIx xs.length 0 lo)
theorem V4 (xs:List V) (lo hi:Option Int):(Yl xs lo hi).length ≤ xs.length := by
  unfold Yl
  rw [List.length_take,List.length_drop]
  omega
end
end L2
namespace L2
open PySem PySem.Spec PyProof.Rows
noncomputable def ixN (n:Nat) (i:Int):Option Nat := if 0 ≤ i then (if i < n then some i.toNat else none) else if -(n:Int) ≤ i then some (i + n).toNat else none
noncomputable def atI {α:Type} (xs:List α) (i:Int):Option α := (ixN xs.length i).bind fun j => xs[j]?
theorem Ux {n:Nat} {i:Int} {j:Nat} (h:ixN n i = some j):seqIndex? i n = some j ∧ j < n ∧ -(n:Int) ≤ i ∧ i < n := by
  unfold ixN at h
  by_cases h0:0 ≤ i
  · rw [if_pos h0] at h
    by_cases h1:i < n
    · rw [if_pos h1] at h
      have e:i.toNat = j := Option.some.inj h
      exact ⟨by rw [seqIndex_of h0 h1,e],by omega,by omega,h1⟩
    · rw [if_neg h1] at h; cases h
  · rw [if_neg h0] at h
    by_cases h1:-(n:Int) ≤ i
    · rw [if_pos h1] at h
      have e:(i + n).toNat = j := Option.some.inj h
      exact ⟨by rw [seqIndex_neg (by omega) h1,e],by omega,h1,by omega⟩
    · rw [if_neg h1] at h; cases h
theorem Ym {α:Type} {xs:List α} {i:Int} {v:α} (h:atI xs i = some v):∃ j,seqIndex? i xs.length = some j ∧ xs[j]? = some v ∧ j < xs.length ∧ -(xs.length:Int) ≤ i ∧ i < xs.length := by
  unfold atI at h
  cases e:ixN xs.length i with
  | none => rw [e] at h; cases h
  | some j =>
    rw [e] at h
    obtain ⟨h1,h2,h3,h4⟩ := Ux e
    exact ⟨j,h1,h,h2,h3,h4⟩
theorem Yn {α:Type} {xs:List α} {j:Nat} {v:α} (h:xs[j]? = some v):atI xs (j:Int) = some v := by
  have hj:j < xs.length := (List.getElem?_eq_some_iff.mp h).1
  have e:ixN xs.length (j:Int) = some j := by
    unfold ixN
    rw [if_pos (by omega),if_pos (by omega)]; simp
  unfold atI; rw [e]; exact h
noncomputable def zbW (b:Expr):Prop := ∀ o i,subscripted b false o i = operate [o,i] (getItem o i)
noncomputable def IxR (X:Cx) (r:R2):Prop :=
  ∀ (value slice:Expr) (pins:List (Addr × Obj)) (s:Shared) (σ:St) (H:Hp) (x y:V) (v u:Value) (Q:VK),Inv X pins σ H s → RelV x v → RelV y u → r x y H Q →
    subscripted slice false v u = operate [v,u] (getItem v u) → wpAny (model X.prog X.w) X.A (subscriptTail value slice v u) (EP X pins σ Q) X.xe s
noncomputable def MtR (X:Cx) (id:String) (r:V → List V → Hp → VK → Prop):Prop :=
  ∀ (pins:List (Addr × Obj)) (s:Shared) (σ:St) (H:Hp) (x:V) (xs:List V) (v:Value) (us:List Value) (Q:VK),Inv X pins σ H s → RelV x v → Vals xs us → r x xs H Q →
    wpAny (model X.prog X.w) X.A (call (.builtin id) (v :: us)) (EP X pins σ Q) X.xe s
section
variable {X:Cx} {a b:Expr} {ta tb:TE} {pos:Pos}
theorem IxR.or {r r':R2} (h:IxR X r) (h':IxR X r'):IxR X (fun x y H Q => r x y H Q ∨ r' x y H Q) := by
  intro value slice pins s σ H x y v u Q I rx ry q hs
  rcases q with q | q
  · exact h value slice pins s σ H x y v u Q I rx ry q hs
  · exact h' value slice pins s σ H x y v u Q I rx ry q hs
theorem MtR.or {id:String} {r r':V → List V → Hp → VK → Prop} (h:MtR X id r) (h':MtR X id r'):MtR X id (fun x xs H Q => r x xs H Q ∨ r' x xs H Q) := by
  intro pins s σ H x xs v us Q I rx rs q
  rcases q with q | q
  · exact h pins s σ H x xs v us Q I rx rs q
  · exact h' pins s σ H x xs v us Q I rx rs q
theorem yN {r:R2} (hr:IxR X r) (ha:PE X a ta) (hb:PE X b tb) (hs:zbW b):PE X (.Subscript a b pos) (tOp r ta tb) := by
  intro pins s σ H Q I h
  exact Subscript_ (Kn ha hb I h fun v u s2 x y H2 I2 rx ry q => hr a b pins s2 σ H2 x y v u Q I2 rx ry q (hs _ _))
noncomputable def Qc (K:PySem.W.Frag):R2 := fun x y H Q => ∃ p xs i v,x = .ref p ∧ y = .int i ∧ SqL K H p xs ∧ atI xs i = some v ∧ Q v H
noncomputable def Kx (K:PySem.W.Frag):R2 := fun x y H Q => ∃ p xs i v,x = .ref p ∧ y = .int i ∧ SqT K H p xs ∧ atI xs i = some v ∧ Q v H
noncomputable def zdv:R2 := fun x y H Q => ∃ z i c,x = .str z ∧ y = .int i ∧ z.length ≤ sizeLine ∧ atI z.cps.toList i = some c ∧ Q (.str ⟨#[c]⟩) H
theorem zbX:IxR X (Qc X.K) := by
  intro value slice pins s σ H x y v u Q I rx ry h hs
  obtain ⟨p,xs,i,z,rfl,rfl,hq,he,q⟩ := h
  cases rx
  obtain ⟨t,rfl⟩ := ry
  obtain ⟨its,r,pl,hz⟩ := I.list hq
  obtain ⟨j,h1,h2,h3,h4,h5⟩ := Ym he
  obtain ⟨w,ew,rw'⟩ := r.get h2
  have hl := r.length
  have hn := qU
  have fin:EP X pins σ Q w s := ⟨z,H,I,rw',q⟩
  by_cases h0:0 ≤ i
  · have hj:i.toNat = j := by
      rw [seqIndex_of h0 h5] at h1
      exact Option.some.inj h1
    exact item_listR pl.isList h0 (by omega) (by rw [hj]; simpa using ew) fin hs
  · have hj:(i + (its.toArray.size:Int)).toNat = j := by
      rw [seqIndex_neg (by omega) h4] at h1
      rw [List.size_toArray,← hl]
      exact Option.some.inj h1
    exact subscriptTail_builtinR (x := w) pl.isList.typeIs slot_list_getitem.lookup
      (wpAny_getItem_list_neg (Q := fun r s' => r = w ∧ EP X pins σ Q r s') pl.isList (by omega) (by rw [List.size_toArray] <;> omega) (by omega) (by rw [hj]; simpa using ew) ⟨rfl,fin⟩) hs
theorem zdw:IxR X (Kx X.K) := by
  intro value slice pins s σ H x y v u Q I rx ry h hs
  obtain ⟨p,xs,i,z,rfl,rfl,hq,he,q⟩ := h
  cases rx
  obtain ⟨t,rfl⟩ := ry
  obtain ⟨its,r,pl,hz⟩ := I.tuple hq
  obtain ⟨j,h1,h2,h3,h4,h5⟩ := Ym he
  obtain ⟨w,ew,rw'⟩ := r.get h2
  have hl := r.length
  have hn := qU
  have fin:EP X pins σ Q w s := ⟨z,H,I,rw',q⟩
  exact subscriptTail_builtinR (x := w) pl.typeIs slot_tuple_getitem.lookup
    (getItem_tuple (j := j) (Q := fun r s' => r = w ∧ EP X pins σ Q r s') pl (by omega) (by omega) (by rw [List.size_toArray,← hl]; exact h1) (by simpa using ew) ⟨rfl,fin⟩) hs
theorem Jq:IxR X zdv := by
  intro value slice pins s σ H x y v u Q I rx ry h hs
  obtain ⟨z,i,c,rfl,rfl,hz,he,q⟩ := h
  obtain ⟨t,rfl⟩ := rx
  obtain ⟨t',rfl⟩ := ry
  obtain ⟨j,h1,h2,h3,h4,h5⟩ := Ym he
  have hl:z.cps.toList.length = z.length := by simp [Str.length]
  rw [hl] at h1 h4 h5
  have hn := qU
  exact tail_any (typeIs_str s z t) slot_str_getitem.lookup (getItem_str (c := c) (by
    have e1:decide (i < -(2 ^ 63:Int)) = false := decide_eq_false (by omega)
    have e2:decide (i ≥ 2 ^ 63) = false := decide_eq_false (by omega)
    rw [e1,e2,Bool.or_false]) (by rw [h1]; simpa using h2) ⟨.str ⟨#[c]⟩,H,I.tok _,⟨_,rfl⟩,q⟩) hs
theorem Qd (its:List Value) (n j:Nat) (u:Value):Obj.mapSeq (·.setIfInBounds j u) { cls := .type "list",data := .seq its.toArray n } = { cls := .type "list",data := .seq (its.set j u).toArray n } := by
  simp [Obj.mapSeq]
theorem Inv.lst {pins:List (Addr × Obj)} {σ:St} {H:Hp} {s:Shared} {p:Addr} {xs:List V} (I:Inv X pins σ H s) (h:H p = some (.lst xs)) :
    ∃ (its:List Value) (n:Nat),Vals xs its ∧ s.heap.get? p = some { cls := .type "list",data := .seq its.toArray n } ∧ xs.length ≤ sizeLine := by
  obtain ⟨z,its,n,r,e⟩ := I.hok p _ h
  exact ⟨its,n,r,e,z⟩
theorem Inv.lstUpd {pins:List (Addr × Obj)} {σ:St} {H:Hp} {s:Shared} {p:Addr} {xs ys:List V} {its its':List Value} {n n':Nat} {f:Obj → Obj} (I:Inv X pins σ H s) (h:H p = some (.lst xs))
    (ho:s.heap.get? p = some { cls := .type "list",data := .seq its.toArray n }) (hf:f { cls := .type "list",data := .seq its.toArray n } = { cls := .type "list",data := .seq its'.toArray n' }) (r:Vals ys its') (hz:ys.length ≤ sizeLine) (t:Nat) :
    Inv X pins σ (upd H p (.lst ys)) { s with heap := s.heap.update p f,toks := t } := by
  have e:(s.heap.update p f).get? p = some { cls := .type "list",data := .seq its'.toArray n' } := by
    rw [Heap.get?_update_self f ho (by rw [hf] <;> rfl),hf]
  refine I.write (x := p) (e := p) (by rw [h]; trivial) (.inl rfl) (fun b u hb q => (Heap.get?_update_other _ _ (Ne.symm hb)).trans q) ⟨_,e⟩ ?_
  exact ⟨hz,its',n',r,e⟩
noncomputable def za1:V → V → V → Hp → (Hp → Prop) → Prop := fun o i v H Q => ∃ p xs k j,o = .ref p ∧ i = .int k ∧ H p = some (.lst xs) ∧ ixN xs.length k = some j ∧ Q (upd H p (.lst (xs.set j v)))
theorem XJ:zdj X za1 := by
  intro pins s σ H o i v ov iv u Q I ro ri rv h
  obtain ⟨p,xs,k,j,rfl,rfl,hp,hj,q⟩ := h
  cases ro
  obtain ⟨t,rfl⟩ := ri
  obtain ⟨its,n,r,ho,hz⟩ := I.lst hp
  obtain ⟨h1,h2,h3,h4⟩ := Ux hj
  have hl := r.length
  have hn := qU
  have I':Inv X pins σ (upd H p (.lst (xs.set j v))) { s with heap := s.heap.update p (Obj.mapSeq (·.setIfInBounds j u)) } :=
    I.lstUpd hp ho (Qd its n j u) (r.set rv j) (by rw [List.length_set]; exact hz) s.toks
  by_cases h0:0 ≤ k
  · have hk:k.toNat = j := by
      rw [seqIndex_of h0 h4] at h1
      exact Option.some.inj h1
    exact PySem.W.ki_setAt ho h0 (by omega) (by rw [List.size_toArray,← hl]; exact h4) (by rw [hk]; exact ⟨_,I',q⟩)
  · have hk:(k + (its.toArray.size:Int)).toNat = j := by
      rw [seqIndex_neg (by omega) h3] at h1
      rw [List.size_toArray,← hl]
      exact Option.some.inj h1
    exact PySem.W.ki_setBack ho (by omega) (by rw [List.size_toArray,← hl]; exact h3) (by omega) (by rw [hk]; exact ⟨_,I',q⟩)
theorem XL (lo hi:Option Int) (n:Nat):(sliceBounds lo hi none n).1 = ((HT.sIx n 0 lo:Nat):Int) ∧ (sliceBounds lo hi none n).2.1 = ((HT.sIx n n hi:Nat):Int) ∧ (sliceBounds lo hi none n).2.2 = 1 := by
  refine ⟨?_,?_,rfl⟩
  · cases lo with
    | none => simp [sliceBounds,HT.sIx]
    | some i =>
      simp only [sliceBounds,HT.sIx,Option.getD_none,show (1:Int) > 0 by decide,if_true]
      by_cases h:i < 0
      · simp only [h,if_true] <;> omega
      · simp only [h,if_false] <;> omega
  · cases hi with
    | none => simp [sliceBounds,HT.sIx]
    | some i =>
      simp only [sliceBounds,HT.sIx,Option.getD_none,show (1:Int) > 0 by decide,if_true]
      by_cases h:i < 0
      · simp only [h,if_true] <;> omega
      · simp only [h,if_false] <;> omega
theorem Y3 (its:List Value) (lo hi:Option Int):slicePick its.toArray lo hi none = ((its.drop (HT.sIx its.length 0 lo)).take (HT.sIx its.length its.length hi - HT.sIx its.length 0 lo)).toArray := by
  obtain ⟨h1,h2,h3⟩ := XL lo hi its.toArray.size
  unfold slicePick
  rw [h1,h2,h3]
  simp only [sliceRange_one,pick_run,List.size_toArray] <;> rfl
noncomputable def Ky (K:PySem.W.Frag):V → Option Int → Option Int → Hp → VK → Prop := fun x lo hi H Q => ∃ a xs,x = .ref a ∧ SqL K H a xs ∧ ∀ p,H p = none → Q (.ref p) (upd H p (.lst (Yl xs lo hi)))
theorem zbY:SlR X (Ky X.K) := by
  intro pins s σ H x v vl vu lo hi sl Q I rx hs pl pu h
  obtain ⟨a,xs,rfl,hx,q⟩ := h
  cases rx
  obtain ⟨its,r,ht,hz⟩ := I.list hx
  have hlen := r.length
  refine ⟨"list",_,slot_list_getitem.lookup,ht.isList.typeIs,?_⟩
  refine wpAny_getItem_list_slice ht.isList hs pl pu .none (by simp) ?_ (by rw [List.size_toArray] <;> omega)
  rw [Y3,← hlen]
  refine ⟨.ref s.heap.objs.size,_,I.laid (t' := s.toks) (o := .lst (Yl xs lo hi)) (fun b ob q => Heap.get?_push_of_some _ q) (Nat.le_refl _) ?_,rfl,q _ (I.hok.fresh (Nat.le_refl _))⟩
  exact ⟨Nat.le_trans (V4 xs lo hi) hz,_,0,(r.drop (HT.sIx xs.length 0 lo)).take (HT.sIx xs.length xs.length hi - HT.sIx xs.length 0 lo),Heap.get?_push_size _ rfl⟩
noncomputable def uK:V → Bool
  | .non => true
  | .bl _ => true
  | .int _ => true
  | .str _ => true
  | _ => false
noncomputable def eqV:V → V → Bool
  | .non,.non => true
  | .bl a,.bl b => a == b
  | .bl a,.int b => (if a then 1 else 0) == b
  | .int a,.bl b => a == (if b then 1 else 0)
  | .int a,.int b => a == b
  | .str a,.str b => a == b
  | _,_ => false
theorem zdx {A:Around} {s:Shared} {y x:V} {u v:Value} (ry:RelV y u) (rx:RelV x v) (fy:uK y = true) (fx:uK x = true):SeqAt.EqAt A s u v (eqV y x) := by
  cases y with
  | non =>
    cases ry
    cases x with
    | non => cases rx; exact SeqAt.EqAt.same _
    | bl b => cases rx; exact SeqAt.EqAt.none_bool b
    | int b => obtain ⟨t,rfl⟩ := rx; exact SeqAt.EqAt.none_int b t
    | str b => obtain ⟨t,rfl⟩ := rx; exact SeqAt.EqAt.none_str b t
    | _ => exact absurd (show false = true from fx) Bool.false_ne_true
  | bl a =>
    cases ry
    cases x with
    | non => cases rx; exact SeqAt.EqAt.bool_none a
    | bl b => cases rx; exact SeqAt.EqAt.bool_bool a b
    | int b => obtain ⟨t,rfl⟩ := rx; exact SeqAt.EqAt.bool_int a b t
    | str b => obtain ⟨t,rfl⟩ := rx; exact SeqAt.EqAt.bool_str a b t
    | _ => exact absurd (show false = true from fx) Bool.false_ne_true
  | int a =>
    obtain ⟨t',rfl⟩ := ry
    cases x with
    | non => cases rx; exact SeqAt.EqAt.int_none a t'
    | bl b => cases rx; exact SeqAt.EqAt.int_bool a t' b
    | int b => obtain ⟨t,rfl⟩ := rx; exact SeqAt.EqAt.int_int a t' b t
    | str b => obtain ⟨t,rfl⟩ := rx; exact SeqAt.EqAt.int_str a t' b t
    | _ => exact absurd (show false = true from fx) Bool.false_ne_true
  | str a =>
    obtain ⟨t',rfl⟩ := ry
    cases x with
    | non => cases rx; exact SeqAt.EqAt.str_none a t'
    | bl b => cases rx; exact SeqAt.EqAt.str_bool a t' b
    | int b => obtain ⟨t,rfl⟩ := rx; exact SeqAt.EqAt.str_int a t' b t
    | str b => obtain ⟨t,rfl⟩ := rx; exact SeqAt.EqAt.str_str a t' b t
    | _ => exact absurd (show false = true from fx) Bool.false_ne_true
  | _ => exact absurd (show false = true from fy) Bool.false_ne_true
noncomputable def eqU (x:V) (u:Value):Bool := match u with
  | .none => eqV .non x
  | .bool b => eqV (.bl b) x
  | .int i _ => eqV (.int i) x
  | .str z _ => eqV (.str z) x
  | _ => false
theorem Jr {x y:V} {u:Value} (r:RelV y u) (f:uK y = true):eqU x u = eqV y x := by
  cases y with
  | non => cases r; rfl
  | bl b => cases r; rfl
  | int i => obtain ⟨t,rfl⟩ := r; rfl
  | str z => obtain ⟨t,rfl⟩ := r; rfl
  | _ => exact absurd (show false = true from f) Bool.false_ne_true
theorem Yo {x:V}:∀ {xs:List V} {us:List Value},Vals xs us → xs.all uK = true → us.any (eqU x) = xs.any fun y => eqV y x
  | _,_,.nil,_ => rfl
  | y :: xs,u :: us,.cons r t,f => by
    rw [List.all_cons,Bool.and_eq_true] at f
    rw [List.any_cons,List.any_cons,Jr r f.1,Yo t f.2]
theorem Zj {A:Around} {s:Shared} {x:V} {v:Value} (rx:RelV x v) (fx:uK x = true):∀ {xs:List V} {us:List Value},Vals xs us → xs.all uK = true → ∀ u ∈ us,SeqAt.EqAt A s u v (eqU x u)
  | _,_,.nil,_ => fun u hu => by cases hu
  | y :: xs,u :: us,.cons r t,f => fun u' hu => by
    rw [List.all_cons,Bool.and_eq_true] at f
    rcases List.mem_cons.mp hu with rfl | hu
    · rw [Jr r f.1]; exact zdx r rx f.1 fx
    · exact Zj rx fx t f.2 u' hu
noncomputable def inV (x:V) (xs:List V):Bool := xs.any fun y => eqV y x
noncomputable def rIn (K:PySem.W.Frag) (neg:Bool):R2 := fun x y H Q => ∃ p xs,y = .ref p ∧ (SqL K H p xs ∨ SqT K H p xs) ∧ uK x = true ∧ xs.all uK = true ∧ Q (.bl (if neg then !inV x xs else inV x xs)) H
theorem Js:OpR X (compareOp .In) (rIn X.K false) := by
  intro pins s σ H x y v u Q I rx ry h
  obtain ⟨p,xs,rfl,hq,fx,fs,q⟩ := h
  cases ry
  rcases hq with hq | hq
  · obtain ⟨its,r,pl,hz⟩ := I.list hq
    refine SeqAt.in_listAt (eqU x) pl.isList (fun w hw => Zj rx fx r fs w (by simpa using hw)) ⟨.bl _,H,I,rfl,?_⟩
    rw [show its.toArray.any (eqU x) = its.any (eqU x) by simp,Yo r fs]
    exact q
  · obtain ⟨its,r,pl,hz⟩ := I.tuple hq
    refine SeqAt.in_tupleAt (eqU x) pl (fun w hw => Zj rx fx r fs w (by simpa using hw)) ⟨.bl _,H,I,rfl,?_⟩
    rw [show its.toArray.any (eqU x) = its.any (eqU x) by simp,Yo r fs]
    exact q
theorem XM:y9 X (.builtin "len") (fun xs H Q => ∃ p ys,xs = [.ref p] ∧ (SqL X.K H p ys ∨ SqT X.K H p ys) ∧ Q (.int ys.length) H) := by
  intro pins s σ H xs us Q I r h
  obtain ⟨p,ys,rfl,hq,q⟩ := h
  obtain ⟨u,rfl,rx⟩ := Xi r
  cases rx
  have hn := qU
  rcases hq with hq | hq
  · obtain ⟨its,r',pl,hz⟩ := I.list hq
    have hlen := r'.length
    exact Calls.call_len_list pl.isList (by simp only [List.size_toArray] <;> omega) ⟨.int ys.length,H,I.tok _,⟨s.toks + 1,by rw [List.size_toArray,hlen]⟩,q⟩
  · obtain ⟨its,r',pl,hz⟩ := I.tuple hq
    have hlen := r'.length
    exact len_tuple pl (by simp only [List.size_toArray] <;> omega) ⟨.int ys.length,H,I.tok _,⟨s.toks + 1,by rw [List.size_toArray,hlen]⟩,q⟩
theorem y9.or {f:Value} {r r':List V → Hp → VK → Prop} (h:y9 X f r) (h':y9 X f r'):y9 X f (fun xs H Q => r xs H Q ∨ r' xs H Q) := by
  intro pins s σ H xs us Q I rs q
  rcases q with q | q
  · exact h pins s σ H xs us Q I rs q
  · exact h' pins s σ H xs us Q I rs q
theorem XN:y9 X (.type "list") (fun xs H Q => ∃ p ys,xs = [.ref p] ∧ (SqL X.K H p ys ∨ SqT X.K H p ys) ∧ ∀ l,H l = none → Q (.ref l) (upd H l (.lst ys))) := by
  intro pins s σ H xs us Q I r h
  obtain ⟨p,ys,rfl,hq,q⟩ := h
  obtain ⟨u,rfl,rx⟩ := Xi r
  cases rx
  have fin:∀ (its:List Value),Vals ys its → ys.length ≤ sizeLine → ∀ (h':Heap) (c':Nat),(∀ b o',s.heap.get? b = some o' → h'.get? b = some o') →
      h'.get? s.heap.objs.size = some { cls := .type "list",dict := none,data := .seq its.toArray c',slots := #[] } → EP X pins σ Q (.ref s.heap.objs.size) { s with heap := h' } := fun its r' hz h' c' kp e =>
    ⟨.ref s.heap.objs.size,_,I.laid (t' := s.toks) kp (Nat.le_refl _) (show yY X.prog X.w _ h' _ (.lst ys) from ⟨hz,its,c',r',e⟩),rfl,q _ (I.hok.fresh (Nat.le_refl _))⟩
  rcases hq with hq | hq
  · obtain ⟨its,r',pl,hz⟩ := I.list hq
    have hlen := r'.length
    obtain ⟨o,ho,hc,n,hd⟩ := pl.isList
    exact call_list_seq p (.inl rfl) ho hc hd (fun h' c' kp e => fin its r' hz h' c' kp e) (by simp only [List.size_toArray] <;> omega)
  · obtain ⟨its,r',pl,hz⟩ := I.tuple hq
    have hlen := r'.length
    obtain ⟨o,ho,hc,n,hd⟩ := pl
    exact call_list_seq p (.inr rfl) ho hc hd (fun h' c' kp e => fin its r' hz h' c' kp e) (by simp only [List.size_toArray] <;> omega)
theorem Y4:y9 X (.type "tuple") (fun xs H Q => ∃ p ys,xs = [.ref p] ∧ ((SqL X.K H p ys ∧ ∀ l,H l = none → Q (.ref l) (upd H l (.tup ys))) ∨ (SqT X.K H p ys ∧ Q (.ref p) H))) := by
  intro pins s σ H xs us Q I r h
  obtain ⟨p,ys,rfl,h⟩ := h
  obtain ⟨u,rfl,rx⟩ := Xi r
  cases rx
  rcases h with ⟨hq,q⟩ | ⟨hq,q⟩
  · obtain ⟨its,r',pl,hz⟩ := I.list hq
    have hlen := r'.length
    refine call_tuple_list pl.isList (fun h' kp => ?_) (by simp only [List.size_toArray] <;> omega)
    have I1:Inv X pins σ H { s with heap := h' } := I.kept (t' := s.toks) kp
    have I2:Inv X pins σ (upd H h'.objs.size (.tup ys)) { s with heap := h'.push { cls := .type "tuple",data := .seq its.toArray } } :=
      I1.laid (t' := s.toks) (fun b o e => Heap.get?_push_of_some _ e) (Nat.le_refl _) (show yY X.prog X.w _ _ _ (.tup ys) from ⟨hz,its,r',IsTup.new _ _⟩)
    exact ⟨.ref h'.objs.size,_,I2,rfl,q _ (I1.hok.fresh (Nat.le_refl _))⟩
  · obtain ⟨its,r',pl,hz⟩ := I.tuple hq
    exact call_tuple_same pl ⟨.ref p,H,I,rfl,q⟩
noncomputable def tyV (K:PySem.W.Frag) (T:String) (x:V) (H:Hp):Prop := match x with
  | .str _ => T = "str"
  | .int _ => T = "int"
  | .ref p => (T = "list" ∧ ∃ xs,SqL K H p xs) ∨ (T = "tuple" ∧ ∃ o,K.lookup p = some o ∧ o.cls = .type "tuple" ∧ o.dict = none) ∨
      (T = "dict" ∧ ((∃ kvs,H p = some (.dK kvs)) ∨ ∃ kvs,H p = some (.dT kvs))) ∨ (T = "set" ∧ ∃ S n,H p = some (.set S n))
  | _ => False
theorem Jt {pins:List (Addr × Obj)} {σ:St} {H:Hp} {s:Shared} {T:String} {x:V} {v:Value} (I:Inv X pins σ H s) (r:RelV x v) (ty:tyV X.K T x H) :
    s.TypeIs v T ∧ ∀ a,v = .ref a → ∃ ob,s.heap.get? a = some ob ∧ ob.dict = none := by
  cases x with
  | str z =>
    obtain ⟨t,rfl⟩ := r
    cases (show T = "str" from ty)
    exact ⟨typeIs_str s z t,fun _ e => nomatch e⟩
  | int i =>
    obtain ⟨t,rfl⟩ := r
    cases (show T = "int" from ty)
    exact ⟨typeIs_int s i t,fun _ e => nomatch e⟩
  | ref p =>
    cases r
    rcases ty with ⟨rfl,xs,hq⟩ | ⟨rfl,o,hk,hc,hd⟩ | ⟨rfl,hk⟩ | ⟨rfl,S,n,hk⟩
    · obtain ⟨its,_,pl,_⟩ := I.list hq
      refine ⟨pl.isList.typeIs,fun a e => ?_⟩
      cases e
      obtain ⟨o,n,e,c,hd,_⟩ := pl
      exact ⟨o,e,hd⟩
    · refine ⟨⟨o,I.kIn p o hk,hc⟩,fun a e => ?_⟩
      cases e
      exact ⟨o,I.kIn _ o hk,hd⟩
    · have z:∃ o,s.heap.get? p = some o ∧ o.ExactDict := by
        rcases hk with ⟨kvs,hk⟩ | ⟨kvs,hk⟩
        · obtain ⟨_,_,_,_,o,_,_,e,ex,_⟩ := I.hok p _ hk
          exact ⟨o,e,ex⟩
        · obtain ⟨_,_,_,_,o,_,_,e,ex,_⟩ := I.hok p _ hk
          exact ⟨o,e,ex⟩
      obtain ⟨o,e,ex⟩ := z
      refine ⟨⟨o,e,ex.1⟩,fun a e2 => ?_⟩
      cases e2
      exact ⟨o,e,ex.2.1⟩
    · obtain ⟨o,_,_,_,e,ex,_⟩ := I.hok p _ hk
      refine ⟨⟨o,e,ex.1⟩,fun a e2 => ?_⟩
      cases e2
      exact ⟨o,e,ex.2.1⟩
  | _ => exact False.elim ty
noncomputable def Kz (K:PySem.W.Frag) (T:String) (r:V → List V → Hp → VK → Prop) (to:TE):TE := fun σ H Q => to σ H fun x H1 => tyV K T x H1 ∧ r x [] H1 Q
noncomputable def tBM (K:PySem.W.Frag) (T:String) (r:V → List V → Hp → VK → Prop) (to:TE) (t:TA):TE := fun σ H Q => to σ H fun x H1 => tyV K T x H1 ∧ t σ H1 fun xs H2 => r x xs H2 Q
variable {o e:Expr} {es:List Expr} {to:TE} {t:TA} {name:Str} {apos cpos:Pos} {T id:String} {r:V → List V → Hp → VK → Prop}
theorem zdy (pa:PlainAttrs T) (slot:Slot T name id) (hty:typeOf (.builtin id) = pure (.type "method_descriptor")) (hm:MtR X id r) (ho:PE X o to)
    (hbase:attributeBase o name X.env (eval o X.env) = eval o X.env := by rfl) (hline:(apos.endLine == cpos.line) = true := by rfl):PE X (.Call (.Attribute o name apos) [] [] cpos) (Kz X.K T r to) := by
  intro pins s σ H Q I h
  refine wpAny_Call_method0_late hbase hline (thn (ho pins s σ H _ I h) fun v s1 ⟨x,H1,I1,r1,ty,q1⟩ => ?_)
  obtain ⟨h1,h2⟩ := Jt I1 r1 ty
  exact ⟨T,id,pa,slot,hty,h1,h2,Calls.callWith_builtin rfl (PySem.evalArgs_none (hm pins s1 σ H1 x [] v [] Q I1 r1 .nil q1))⟩
theorem zeQ (pa:PlainAttrs T) (slot:Slot T name id) (hty:typeOf (.builtin id) = pure (.type "method_descriptor")) (hm:MtR X id r) (ho:PE X o to) (ha:PA X (e :: es) t)
    (hbase:attributeBase o name X.env (eval o X.env) = eval o X.env := by rfl)
    (hfew:((backTo cpos (starEach (e :: es) X.env)).all (fun x => !x.1) && (backToKw cpos (keywordEach [] X.env)).all (fun x => x.1.isSome)
      && decide ((e :: es).length + ([]:List Keyword).length + (if ([]:List Keyword).isEmpty then 0 else 1) < 30)) = true := by rfl)
    (hline:(apos.endLine == cpos.line) = true := by rfl) (hs:starEach (e :: es) X.env = (false,eval e X.env) :: starEach es X.env := by rfl) (hplain:(backTo cpos (starEach es X.env)).any (·.1) = false := by rfl) :
    PE X (.Call (.Attribute o name apos) (e :: es) [] cpos) (tBM X.K T r to t) := by
  intro pins s σ H Q I h
  refine wpAny_Call_method_late hbase hfew hline rfl (thn (ho pins s σ H _ I h) fun v s1 ⟨x,H1,I1,r1,ty,q1⟩ => ?_)
  obtain ⟨h1,h2⟩ := Jt I1 r1 ty
  refine ⟨T,id,pa,slot,hty,h1,h2,?_⟩
  have hA := ha cpos pins s1 σ H1 _ I1 q1
  rw [hs] at hA ⊢
  refine Calls.callWith_builtin (by show (false || (backTo cpos (starEach es X.env)).any (·.1)) = false; rw [hplain] <;> rfl) (Calls.evalArgs_plain ?_)
  exact thn hA fun us s2 ⟨vs,H2,I2,r2,q2⟩ => hm pins s2 σ H2 x vs v us Q I2 r1 r2 q2
end
end L2
namespace L2
open PySem PySem.Spec PyProof.Rows
noncomputable def MtM (X:Cx) (id:String) (r:V → List V → Hp → VK → Prop):Prop :=
  ∀ (pins:List (Addr × Obj)) (s:Shared) (σ:St) (H:Hp) (x:V) (xs:List V) (v:Value) (us:List Value) (Q:VK),Inv X pins σ H s → RelV x v → Vals xs us → r x xs H Q →
    wpAny (model X.prog X.w) X.A (call (.builtin id) (v :: us)) (EP X pins σ Q) X.xe s
theorem Vals.one:∀ {x:V} {us:List Value},Vals [x] us → ∃ u,us = [u] ∧ RelV x u
  | _,_,.cons r .nil => ⟨_,rfl,r⟩
theorem Vals.two:∀ {x y:V} {us:List Value},Vals [x,y] us → ∃ u v,us = [u,v] ∧ RelV x u ∧ RelV y v
  | _,_,_,.cons r (.cons q .nil) => ⟨_,_,rfl,r,q⟩
theorem Vals.zero:∀ {us:List Value},Vals [] us → us = []
  | _,.nil => rfl
theorem Vals.dropLast {xs:List V} {us:List Value} (h:Vals xs us):Vals xs.dropLast us.dropLast := by
  induction h with
  | nil => exact .nil
  | cons r t ih =>
    cases t with
    | nil => exact .nil
    | cons q t' => exact .cons r ih
theorem Vals.eraseIdx:∀ {xs:List V} {us:List Value} (i:Nat),Vals xs us → Vals (xs.eraseIdx i) (us.eraseIdx i)
  | _,_,_,.nil => .nil
  | _,_,0,.cons _ t => t
  | _,_,i + 1,.cons r t => .cons r (Vals.eraseIdx i t)
theorem Vals.reverse {xs:List V} {us:List Value} (h:Vals xs us):Vals xs.reverse us.reverse := by
  induction h with
  | nil => exact .nil
  | cons r t ih => rw [List.reverse_cons,List.reverse_cons]; exact Vals.append ih (.cons r .nil)
theorem Qe {α:Type} (l:List α):l.eraseIdx (l.length - 1) = l.dropLast := by
  induction l with
  | nil => rfl
  | cons a r ih =>
    cases r with
    | nil => rfl
    | cons b r =>
      have e:(a :: b :: r).length - 1 = ((b :: r).length - 1) + 1 := by
        have h1:(a :: b :: r).length = r.length + 2 := rfl
        have h2:(b :: r).length = r.length + 1 := rfl
        omega
      rw [e,List.eraseIdx_cons_succ,ih]
      all_goals rfl
theorem YU {α:Type}:∀ (l:List α) (i:Nat),(l.eraseIdx i).length ≤ l.length
  | [],_ => Nat.le_refl _
  | _ :: _,0 => Nat.le_succ _
  | _ :: r,i + 1 => Nat.succ_le_succ (YU r i)
section
variable {X:Cx} {pins:List (Addr × Obj)} {σ:St} {H:Hp} {s:Shared} {l b:Addr} {xs ys zs:List V}
theorem Inv.lset {its its':List Value} {n:Nat} {f:Array Value → Array Value} {t':Nat} (I:Inv X pins σ H s) (hH:H l = some (.lst xs))
    (e:s.heap.get? l = some { cls := .type "list",data := .seq its.toArray n }) (hf:f its.toArray = its'.toArray) (hv:Vals ys its') (hz:ys.length ≤ sizeLine) :
    Inv X pins σ (upd H l (.lst ys)) { s with heap := s.heap.update l (Obj.mapSeq f),toks := t' } := by
  have q := PySem.IsL.update e f
  rw [hf] at q
  refine I.write (x := l) (e := l) (by rw [hH]; exact trivial) (.inl rfl) (fun b' u hb hu => (Heap.get?_update_other s.heap (Obj.mapSeq f) (Ne.symm hb)).trans hu) ⟨_,q⟩ ?_
  exact ⟨hz,its',_,hv,q⟩
theorem Inv.lnew {its:List Value} {t':Nat} (I:Inv X pins σ H s) (hv:Vals ys its) (hz:ys.length ≤ sizeLine) :
    Inv X pins σ (upd H s.heap.objs.size (.lst ys)) { s with heap := s.heap.push { cls := .type "list",data := .seq its.toArray },toks := t' } :=
  I.laid (fun _ _ q => Heap.get?_push_of_some _ q) (Nat.le_refl _) ⟨hz,its,0,hv,Heap.get?_push_size _ rfl⟩
theorem Inv.fresh (I:Inv X pins σ H s):H s.heap.objs.size = none := I.hok.fresh (Nat.le_refl _)
theorem Inv.lstM (I:Inv X pins σ H s) (hH:H l = some (.lst xs)):xs.length ≤ sizeLine ∧ ∃ (its:List Value) (n:Nat),Vals xs its ∧ xs.length = its.length ∧ s.heap.get? l = some { cls := .type "list",data := .seq its.toArray n } := by
  obtain ⟨z,its,n,r,e⟩ := I.hok l _ hH
  exact ⟨z,its,n,r,r.length,e⟩
end
section
variable {X:Cx}
noncomputable def Uy:V → List V → Hp → VK → Prop := fun x vs H Q => ∃ l xs y,x = .ref l ∧ vs = [y] ∧ H l = some (.lst xs) ∧ xs.length < sizeLine ∧ Q .non (upd H l (.lst (xs ++ [y])))
theorem y6:MtM X "list.append" Uy := by
  intro pins s σ H x vs v us Q I rx rv h
  obtain ⟨l,xs,y,rfl,rfl,hH,hz,q⟩ := h
  cases rx
  obtain ⟨u,rfl,ru⟩ := rv.one
  obtain ⟨z,its,n,r,hl,e⟩ := I.lstM hH
  refine call_meets F.slot_list_append ⟨_,e,rfl⟩ F.entry_list_append (F.args_list_append_2 _ _) (PySem.list_append l its.toArray n u (by rw [List.size_toArray]; omega)) ⟨e,?_⟩
  refine ⟨.non,_,I.lset (its' := its ++ [u]) hH e (by simp) (r.append (.cons ru .nil)) ?_,rfl,q⟩
  rw [List.length_append,List.length_singleton]
  omega
noncomputable def zdz:V → List V → Hp → VK → Prop := fun x vs H Q => ∃ l xs y,x = .ref l ∧ vs = [] ∧ H l = some (.lst xs) ∧ xs[xs.length - 1]? = some y ∧ Q y (upd H l (.lst xs.dropLast))
theorem XO:MtM X "list.pop" zdz := by
  intro pins s σ H x vs v us Q I rx rv h
  obtain ⟨l,xs,y,rfl,rfl,hH,hy,q⟩ := h
  cases rx
  have hus := rv.zero
  subst hus
  obtain ⟨z,its,n,r,hl,e⟩ := I.lstM hH
  obtain ⟨u,hu,ru⟩ := r.get hy
  have hy':its.toArray[its.toArray.size - 1]? = some u := by
    show its.toArray[its.length - 1]? = some u
    rw [← Array.getElem?_toList,← hl]
    exact hu
  refine call_meets F.slot_list_pop ⟨_,e,rfl⟩ F.entry_list_pop (F.args_list_pop_1 _) (MeetsSeq.list_pop_last l its.toArray n u hy' (by rw [List.size_toArray]; omega)) ⟨e,?_⟩
  refine ⟨y,_,I.lset (its' := its.dropLast) hH e ?_ r.dropLast ?_,ru,q⟩
  · show its.toArray.eraseIdxIfInBounds (its.toArray.size - 1) = its.dropLast.toArray
    rw [List.size_toArray,List.eraseIdxIfInBounds_toArray,Qe]
  · rw [List.length_dropLast]
    omega
noncomputable def Ju:V → List V → Hp → VK → Prop := fun x vs H Q => ∃ l xs i k y,x = .ref l ∧ vs = [.int i] ∧ H l = some (.lst xs) ∧ -(2 ^ 63) ≤ i ∧ i < 2 ^ 63 ∧ seqIndex? i xs.length = some k ∧ xs[k]? = some y ∧ Q y (upd H l (.lst (xs.eraseIdx k)))
theorem KA:MtM X "list.pop" Ju := by
  intro pins s σ H x vs v us Q I rx rv h
  obtain ⟨l,xs,i,k,y,rfl,rfl,hH,h1,h2,hk,hy,q⟩ := h
  cases rx
  obtain ⟨u,rfl,ru⟩ := rv.one
  obtain ⟨t,rfl⟩ := ru
  obtain ⟨z,its,n,r,hl,e⟩ := I.lstM hH
  obtain ⟨w,hw,rw'⟩ := r.get hy
  refine call_meets F.slot_list_pop ⟨_,e,rfl⟩ F.entry_list_pop (F.args_list_pop_2 _ _)
    (MeetsSeq.list_pop_at l its.toArray n i t k w (fitsIndex_both h1 h2) (by rw [List.size_toArray,← hl]; exact hk) (by rw [← Array.getElem?_toList]; exact hw) (by rw [List.size_toArray]; omega)) ⟨e,?_⟩
  refine ⟨y,_,I.lset (its' := its.eraseIdx k) hH e ?_ (r.eraseIdx k) ?_,rw',q⟩
  · show its.toArray.eraseIdxIfInBounds k = (its.eraseIdx k).toArray
    rw [List.eraseIdxIfInBounds_toArray]
  · have := YU xs k
    omega
end
section
variable {prog:Program} {w:World} {A:Around} {E:Value → Shared → Prop} {s:Shared}
end
section
variable {X:Cx}
end
end L2
namespace Att
open PySem PySem.W PySem.Calls PyProof.Rows
theorem ZD {P:Params} {h:Heap}:∀ (ns:List Int) (vs:List Value),WellAll P h vs (ns.map WData.int) → IntsAre vs ns := by
  intro ns
  induction ns with
  | nil =>
    intro vs w
    rw [List.map_nil] at w
    cases w
    exact .nil
  | cons n ns ih =>
    intro vs w
    rw [List.map_cons] at w
    cases w with
    | cons a b =>
      cases a
      exact .cons _ _ (ih _ b)
theorem Jv {l:OpenLaw} {n:Nat} (hn:l.most = some n) {P:Params} {h:Heap} {args:List WData} {vals:List Value}
    (hpre:l.row.toRowW.claim.pre args = true) (hwl:WellAll P h vals args) :
    ∃ a vs ns,vals = [Value.ref a] ∧ args = [WData.list (ns.map WData.int)] ∧ h.get? a = some { cls := .type "list",data := .seq vs.toArray } ∧ IntsAre vs ns ∧ ns.length ≤ n := by
  have hsh:WShape.hasAll [] args [.list .int] = true := (pre_splitW hpre).1
  have hc:l.pre.holds [] { args := args } = true := (pre_splitW hpre).2
  obtain ⟨d,r,rfl,h1,h2⟩ := hasAllW_cons hsh
  obtain rfl := hasAllW_nil h2
  obtain ⟨xs,rfl,h3⟩ := hasW_list h1
  obtain ⟨ns,rfl⟩ := items_int h3
  have hlen:ns.length ≤ n := by
    unfold OpenLaw.pre at hc
    have h4:(WTm.not (.lt (.lit (.int (n:Int))) (.len (.arg 0)))).holds [] { args := [.list (ns.map .int)] } = true := by
      have h4 := (holds_andW hc).1
      rw [hn] at h4
      exact h4
    have h5 := condW_of h4 (w_not (w_lt w_lit (w_len_list (w_arg rfl))))
    rw [List.length_map] at h5
    refine Nat.le_of_not_lt fun q => ?_
    have q':(n:Int) < ((ns.length:Nat):Int) := by omega
    first
      | (rw [decide_eq_true q'] at h5; exact absurd h5 (by decide))
      | (simp at h5; omega)
  cases hwl with
  | cons w1 w2 =>
    cases w2
    cases w1 with
    | list ho hall => exact ⟨_,_,ns,rfl,rfl,ho,ZD ns _ hall,hlen⟩
theorem Jw (l:OpenLaw) (args:List WData):l.row.toRowW.claim.post args (.bool true) args = true :=
  postW_of (r := l.row.toRowW) (X := (true == true))
    (show WShape.has [] (.bool true) .bool = true by first | rfl | decide | simp [WShape.has,WShape.arms,WShape.armsAll])
    (show (WTm.eq .res (.lit (.bool true))).value [] { args := args,res := some (.bool true),after := args } = some (.bool (true == true)) from w_eq_bool (w_res rfl) w_lit) rfl
section
variable {prog:Program} {w:World} {A:Around} {E:Value → Shared → Prop} {s:Shared} {K:Frag}
noncomputable def zgj (h:Heap) (L d:Addr):List (Addr × Obj) := (List.range h.objs.size).filterMap fun a => if a = L ∨ a = d then none else (h.get? a).map fun o => (a,o)
end
end Att
namespace L2
open PySem PySem.Spec PyProof.Rows
theorem qm:∀ {vs:List Value} {ns:List Int},IntsAre vs ns → Vals (ns.map V.int) vs
  | _,_,.nil => .nil
  | _,_,.cons n t h => .cons ⟨t,rfl⟩ (qm h)
noncomputable def zdA (H:Hp):Prop := ∀ b,H b = none ∨ ∃ o xs,H b = some (.frz o (.lst xs))
theorem KB {P:Program} {w:World} {K:PySem.W.Frag} {mg mb:Str → Option Value} {CX:CXT} {k:Nat} {fa a:Addr} {fd:FuncData} {x:Str} {sp:Sp} {s₁:Shared} {vs:List Value} {ns:List Int}
    (KX:K.In s₁.heap) (hns:s₁.heap.Ns mainGlobals mg) (hb:s₁.heap.Ns builtinsNs mb) (hbb:∀ x:Str,x ≠ "__name__" → mb x = bootBuiltins x) (hlim:s₁.heap.NoLimit) (hg:s₁.gens = #[])
    (ha:s₁.heap.get? a = some { cls := .type "list",data := .seq vs.toArray }) (hi:IntsAre vs ns) (hl:ns.length ≤ sizeLine) (hr:Room k callerA)
    (F:∀ base:Heap,K.In base → base.Ns mainGlobals mg → FnOk P w K mg base CX k fa fd [x] sp) (hbind:∀ (s:Shared) (u:Value),BindsTo s fd ⟨[u],[]⟩ [(x,u)])
    (hsp:∀ H:Hp,zdA H → SqL K H a (ns.map V.int) → sp [.ref a] H (fun v _ => v = .bl true) fun _ _ _ => False)
    (hCX:∀ H e s',CX [] H s₁ (fun _ _ _ => False) e s' → False) :
    codeAny (model P w) callerA (.call (.ref fa) ⟨[.ref a],[]⟩) (fun r s' => r = .ok (.ret (.bool true)) ∧ OldK s₁.heap s'.heap ∧ s'.os = s₁.os ∧ AllBare s'.gens) s₁ := by
  have rv := qm hi
  have lenV := hi.length
  have core:∀ H:Hp,zdA H → SqL K H a (ns.map V.int) → HOk P w H s₁.heap → (∀ b,H b ≠ none → b = a) → (H a ≠ none → K.lookup a = none) →
      codeAny (model P w) callerA (.call (.ref fa) ⟨[.ref a],[]⟩) (fun r s' => r = .ok (.ret (.bool true)) ∧ OldK s₁.heap s'.heap ∧ s'.os = s₁.os ∧ AllBare s'.gens) s₁ := by
    intro H hO hS hok hA hK
    have base_of:∀ {b:Addr} {o:Obj},s₁.heap.get? b = some o → H b = none → (jm s₁.heap H).get? b = some o := fun e n => Kh e n
    have noA:∀ {b:Addr} {o:Obj} {es:Array DictEntry} {ep:Nat},s₁.heap.get? b = some o → o.data = .dict es ep → H b = none := fun {b o es ep} e d => by
      cases q:H b with
      | none => rfl
      | some u =>
        have e':b = a := hA b (by rw [q]; simp)
        subst e'
        rw [ha] at e; cases e
        have d':Data.seq vs.toArray _ = Data.dict es ep := d
        cases d'
    have nsK:∀ {b:Addr} {m:Str → Option Value},s₁.heap.Ns b m → (jm s₁.heap H).Ns b m := fun {b m} ⟨o,es,ep,e,d,r⟩ => ⟨o,es,ep,base_of e (noA e d),d,r⟩
    have hKb:K.In (jm s₁.heap H) := fun b o e => base_of (KX b o e) (by
      cases q:H b with
      | none => rfl
      | some u =>
        have e':b = a := hA b (by rw [q]; simp)
        subst e'
        rw [hK (by rw [q]; simp)] at e; cases e)
    have hM:Mod K mg (jm s₁.heap H) := ⟨hKb,nsK hns,⟨mb,nsK hb,hbb⟩,let ⟨mc,h1,h2⟩ := hlim; ⟨mc,nsK h1,h2⟩⟩
    have e0:Env0 P w K mg (jm s₁.heap H) callerA [] s₁ H := ⟨rfl,hM,fun b o e => zbM e,Nat.le_of_eq (Q9 _ _),trivial,fun b hb => absurd (show b ∈ ([]:List Addr) from hb) (by simp),hok,.of_eq hg⟩
    refine codeAny_mono ((F _ hKb (nsK hns)).run callerA [] s₁ H ⟨[.ref a],[]⟩ [.ref a] [.ref a] _ _ hr e0 (hbind s₁ (.ref a)) (.cons rfl .nil) (hsp H hO hS)) fun r s' h => ?_
    cases r with
    | error e => exact (hCX H e s' h).elim
    | ok fl =>
      cases fl with
      | next => exact False.elim h
      | brk => exact False.elim h
      | cont => exact False.elim h
      | ret u =>
        obtain ⟨v,H',os,bare,un,hok',r',q⟩ := h
        have q':v = .bl true := q
        subst q'
        obtain rfl:u = Value.bool true := r'
        refine ⟨rfl,OldK.of_keep fun b o e => ?_,os,bare⟩
        cases q:H b with
        | none => exact un.keep b o e q (by intro z; exact absurd (show b ∈ ([]:List Addr) from z) (by simp)) (by simp)
        | some u =>
          rcases hO b with z | ⟨ob,xs,z⟩
          · rw [q] at z; cases z
          · have z2 := un.frzs b ob _ z
            obtain ⟨e1,_⟩ := hok b _ z
            obtain ⟨e2,_⟩ := hok' b _ z2
            rw [e] at e1; cases e1
            exact e2
  cases hk:K.lookup a with
  | some o =>
    have e := KX a o hk
    rw [ha] at e
    cases e
    refine core (fun _ => none) (fun _ => .inl rfl) (.inr ⟨_,vs.toArray,_,hk,rfl,rfl,rfl,by rw [List.size_toArray,lenV]; exact hl,by simpa using rv⟩) (fun b u z => by have z':(none:Option HO) = some u := z; cases z') (fun b z => absurd rfl z) fun z => absurd rfl z
  | none =>
    refine core (fun b => if b = a then some (.frz { cls := .type "list",data := .seq vs.toArray } (.lst (ns.map V.int))) else none) (fun b => ?_) (.inl (.inr ⟨{ cls := .type "list",data := .seq vs.toArray },if_pos rfl⟩)) (fun b u z => ?_) (fun b z => ?_) fun _ => hk
    · by_cases hb:b = a
      · exact .inr ⟨_,_,if_pos hb⟩
      · exact .inl (if_neg hb)
    · by_cases hb:b = a
      · have z' := (if_pos hb).symm.trans z
        cases z'
        subst hb
        exact ⟨ha,by rw [List.length_map]; exact hl,vs,_,rv,ha⟩
      · have z' := (if_neg hb).symm.trans z
        cases z'
    · by_cases hb:b = a
      · exact hb
      · exact absurd (if_neg hb) z
end L2
namespace L2
open PySem PySem.Spec PyProof.Rows
end L2
namespace L2
open PySem PySem.Spec PyProof.Rows
noncomputable def Uz (s:Stmt) (j:Nat):Stmt := match s with
  | .ClassDef _ _ _ body _ _ _ _ _ _ _ => body.getD j (.Pass ⟨0,0,0,0⟩)
  | _ => .Pass ⟨0,0,0,0⟩
noncomputable def defArgs (s:Stmt):Arguments := match s with
  | .FunctionDef _ a _ _ _ _ _ _ _ _ => a
  | _ => { posonlyargs := [],args := [],vararg := none,kwonlyargs := [],kw_defaults := [],kwarg := none,defaults := [] }
noncomputable def defBody (s:Stmt):List Stmt := match s with
  | .FunctionDef _ _ b _ _ _ _ _ _ _ => b
  | _ => []
noncomputable def defScope (s:Stmt):Scope := match s with
  | .FunctionDef _ _ _ _ _ _ sc _ _ _ => sc
  | _ => { kind := .function,names := [],isGenerator := false,isCoroutine := false }
noncomputable abbrev CX0:CXT := fun _ _ _ _ _ _ => False
noncomputable abbrev E0:XK := fun _ _ _ => False
theorem Qf {X:Cx}:uQ CX0 X E0 := fun _ _ _ _ _ _ _ h => h.elim
structure Fun (K:PySem.W.Frag) (x qual:Str) (st:Stmt) (f:Addr) (fd:FuncData):Prop where
  ex:∃ (oc:Value) (od:Option Addr) (kV doc pm:Value) (an:Option Addr) (cdv ct:Value) (osl:Array (Option Value)),
    fd = PySem.W.fnOf x qual (defArgs st) (defBody st) (defScope st) .none kV doc pm an cdv ct ∧ K.lookup f = some ⟨oc,od,.func fd,osl⟩ ∧ PySem.W.codeIn K cdv qual = true
  kp:PySem.W.keepIn K (.ref f) = true
section
variable {P:Program} {w:World} {K:PySem.W.Frag} {mg:Str → Option Value} {base:Heap}
theorem Fun.ok {x qual:Str} {st:Stmt} {f:Addr} {fd:FuncData} {N ps:List Str} {k:Nat} {sp:Sp} (F:Fun K x qual st f fd) (S:FnScope N ps (defScope st)) (len:∀ vs H Q E,sp vs H Q E → vs.length = ps.length)
    (hbody:∀ (cdv:Value) (A:Around) (outer:List Env) (s:Shared) (H:Hp) (vs:List V) (Q:VK) (E:XK),Room k (A.deeper (envOfC qual (defScope st) s.heap.objs.size f cdv)) → sp vs H Q E →
      ∃ t,PSs (uR CX0 P w K mg base N qual (defScope st) f cdv A outer s H E).nox (defBody st) t ∧ t { nx := fun _ H' => Q .non H',rt := Q } (start N vs) H):FnOk P w K mg base CX0 (k + 1) f fd ps sp := by
  obtain ⟨oc,od,kV,doc,pm,an,cdv,ct,osl,rfl,lk,hcd⟩ := F.ex
  refine zaZ lk hcd S len fun A outer s H vs Q E hr hsp => ?_
  obtain ⟨t,h,q⟩ := hbody cdv A outer s H vs Q E hr hsp
  exact ⟨t,h.nox,q⟩
theorem Fun.binds {x qual:Str} {st:Stmt} {f:Addr} {fd:FuncData} {ps:List Str} (F:Fun K x qual st f fd)
    (h:∀ (kV doc pm:Value) (an:Option Addr) (cdv ct:Value) (us:List Value),us.length = ps.length → bindArgs (PySem.W.fnOf x qual (defArgs st) (defBody st) (defScope st) .none kV doc pm an cdv ct) ⟨us,[]⟩ = pure (ps.zip us)):Binds K fd ps [] := by
  obtain ⟨oc,od,kV,doc,pm,an,cdv,ct,osl,rfl,lk,hcd⟩ := F.ex
  exact .all (h kV doc pm an cdv ct)
theorem XQ {x qual:Str} {st:Stmt} {f:Addr} {oc:Value} {od an:Option Addr} {osl:Array (Option Value)} {kV doc pm cdv ct:Value} (l:K.lookup f = some ⟨oc,od,.func (PySem.W.fnOf x qual (defArgs st) (defBody st) (defScope st) .none kV doc pm an cdv ct),osl⟩)
    (c:PySem.W.codeIn K cdv qual = true) (k:PySem.W.keepIn K (.ref f) = true):Fun K x qual st f (PySem.W.fnOf x qual (defArgs st) (defBody st) (defScope st) .none kV doc pm an cdv ct) := ⟨⟨oc,od,kV,doc,pm,an,cdv,ct,osl,rfl,l,c⟩,k⟩
end
theorem zq {A:Around} {k:Nat} (hr:Room k A):A.units + 1 < cLine := Nat.lt_of_le_of_lt (Nat.add_le_add_left (by decide:1 ≤ 64) _) hr.units
theorem vh {n:Nat} (h:n ≤ 1000):n < sizeLine := Nat.lt_of_le_of_lt h (by decide)
section
variable {X:Cx}
theorem pv (i:Nat) {x:Str} {pos:Pos} (hN:X.N[i]? = some x := by rfl) (hv:Vis X.env.scope x := by first | exact Or.inl rfl | exact Or.inr (Or.inl rfl) | exact Or.inr (Or.inr rfl)) (hd:(x == ("__debug__":Str)) = false := by decide)
    (hcd:(x == ("__classdict__":Str)) = false := by decide):PE X (.Name x pos) (UW i) := zdc hN hv hd hcd
end
noncomputable def Same (H H':Hp):Prop := ∀ b o,H b = some o → H' b = some o
theorem Same.refl (H:Hp):Same H H := fun _ _ h => h
theorem Same.trans {H H1 H2:Hp} (a:Same H H1) (b:Same H1 H2):Same H H2 := fun c o h => b c o (a c o h)
theorem Same.free {H H':Hp} (e:Same H H') {l:Addr} (h:H' l = Option.none):H l = Option.none := by
  cases q:H l with
  | none => rfl
  | some o =>
    rw [e l o q] at h
    cases h
theorem Same.seq {K:PySem.W.Frag} {H H':Hp} {a:Addr} {xs:List V} (e:Same H H') (h:SqL K H a xs):SqL K H' a xs := by
  rcases h with (h | ⟨o,h⟩) | h
  · exact .inl (.inl (e _ _ h))
  · exact .inl (.inr ⟨o,e _ _ h⟩)
  · exact .inr h
end L2
namespace L2
open PySem PySem.Spec PyProof.Rows
theorem zbZ {prog:Program} {w:World} {A:Around} {R:Result → Shared → Prop} {s:Shared} {elt tg iter:Expr} {ifs:List Expr} {scope:Scope} {pos:Pos} {it acc:Value} {env:Env} (J:Nat → Shared → Prop)
    (turn:∀ k s0,J k s0 → wpAny (model prog w) A (pyNext it) (fun r s1 => match r with
      | none => R (.ok .next) s1
      | some v => wpAny (model prog w) A (letOwnedTupleGo tg it v) (fun _ s2 => wpAny (model prog w) A (assign tg env v) (fun _ s3 =>
          wpAny (model prog w) A (forIn ifs true fun c r => if r = true then do let ok ← isTrue c env (eval c env); pure (ForInStep.yield ok) else pure (ForInStep.yield r)) (fun ok s4 =>
            if ok = true then wpAny (model prog w) A (eval elt env) (fun x s5 => wpAny (model prog w) A (call (.builtin "list.append") [acc,x]) (fun _ s6 => ∃ j,j < k ∧ J j s6) (fun _ _ => False) s5) (fun _ _ => False) s4
            else ∃ j,j < k ∧ J j s4) (fun _ _ => False) s3) (fun _ _ => False) s2) (fun _ _ => False) s1) (fun _ _ => False) s0)
    (k:Nat) (h:J k s):codeAny (model prog w) A (.compLoop (.ListComp elt [⟨tg,iter,ifs,0⟩] scope pos) 0 it acc env) R s := by
  refine codeAny_loop rfl J (fun k0 s0 hJ => ?_) k h
  show wpAny _ A ((compTurn (.ListComp elt [⟨tg,iter,ifs,0⟩] scope pos) 0 it acc env).onRaise (fun x => do noteFrame x env; theTreesLotGoes x)) _ _ s0
  refine wpAny_noted ?_
  rw [compTurn_list]
  refine wpAny_bind (wpAny_standAt (wpAny_bind (wpAny_mono (turn k0 s0 hJ) (fun r s1 h1 => ?_) fun _ _ f => f.elim)))
  cases r with
  | none => exact wpAny_pure h1
  | some v =>
    refine wpAny_bind (wpAny_mono h1 (fun _ s2 h2 => wpAny_bind (wpAny_mono h2 (fun _ s3 h3 => wpAny_bind (wpAny_mono h3 (fun ok s4 h4 => ?_) fun _ _ f => f.elim)) fun _ _ f => f.elim)) fun _ _ f => f.elim)
    cases ok with
    | false => exact wpAny_pure ⟨rfl,h4⟩
    | true => exact wpAny_bind (wpAny_bind (wpAny_mono h4 (fun x s5 h5 => wpAny_bind (wpAny_mono h5 (fun _ s6 h6 => wpAny_pure (wpAny_pure ⟨rfl,h6⟩)) fun _ _ f => f.elim)) fun _ _ f => f.elim))
noncomputable def PTs (X:Cx) (ifs:List Expr) (t:TT):Prop :=
  ∀ (pins:List (Addr × Obj)) (s:Shared) (σ:St) (H:Hp) (Q:Bool → Hp → Prop),Inv X pins σ H s → t σ H Q →
    wpAny (model X.prog X.w) X.A (forIn ifs true fun c r => if r = true then do let ok ← isTrue c X.env (eval c X.env); pure (ForInStep.yield ok) else pure (ForInStep.yield r)) (TP X pins σ Q) X.xe s
noncomputable def zdB:TT := fun _ H Q => Q true H
theorem uN {X:Cx}:PTs X [] zdB := fun _ _ _ H _ I h => wpAny_tests_nil ⟨H,I,h⟩
theorem kN {X:Cx} {c:Expr} {t:TT} (h:PT X c t):PTs X [c] t := fun pins s σ H Q I hw => wpAny_tests_one (h pins s σ H Q I hw)
noncomputable def xh (X:Cx) (N:List Str) (scope:Scope) (cl:List (Str × Addr)) (C:Addr) (s:Shared) (H:Hp) (fp:List Addr):Cx where
  prog := X.prog
  w := X.w
  K := X.K
  mg := X.mg
  base := X.base
  A := X.A
  N := N
  s₀ := s
  H₀ := H
  env := compEnvC scope cl C X.env
  outer := X.stack
  stack := X.stack
  ex := fp
  fn := fun _ => false
  calm := X.calm
  pn := []
  xe := fun _ _ => False
noncomputable def jq (n:Nat) (js:List Nat) (σ:St):St := List.replicate n none ++ js.map fun j => (σ[j]?).join
structure LcOk (X:Cx) (N:List Str) (n:Nat) (js:List Nat) (scope:Scope) (cl:List (Str × Addr)):Prop where
  clos:closureFor scope X.env = pure cl
  nocell:∀ y ∈ scope.names,y.2 ≠ .cell
  kind:scope.kind = .function
  names:∀ y ∈ scope.names,y.2 = .local → scope.names.lookup y.1 = some .local
  cells:∀ x c,cl.lookup x = some c → X.env.cells.lookup x = some c
  has:∀ x,((relabel scope X.env).names.lookup x = some .cell ∨ (relabel scope X.env).names.lookup x = some .free) → ∃ c,cl.lookup x = some c
  len:n + js.length = N.length
  free:∀ (i:Nat) (x:Str),N[n + i]? = some x → ∃ j c,js[i]? = some j ∧ X.N[j]? = some x ∧ (X.env.scope.names.lookup x = some .cell ∨ X.env.scope.names.lookup x = some .free) ∧
    ((relabel scope X.env).names.lookup x = some .cell ∨ (relabel scope X.env).names.lookup x = some .free) ∧ cl.lookup x = some c
section
variable {X:Cx} {pins:List (Addr × Obj)} {σ:St} {H:Hp} {s:Shared} {N:List Str} {n:Nat} {js:List Nat} {scope:Scope} {cl:List (Str × Addr)}
theorem LcOk.ok (L:LcOk X N n js scope cl) (I:Inv X pins σ H s) {fp:List Addr} (hf:∀ b ∈ fp,FpOk X pins H b) (hlt:∀ b ∈ fp,b < s.heap.objs.size) {C:Addr} (hC:s.heap.objs.size ≤ C):(xh X N scope cl C s H fp).Ok where
  mod := I.ok.mod
  kind := L.kind
  glob := I.ok.glob
  blt := I.ok.blt
  above := hC
  inj := fun x y c h1 h2 => I.ok.inj x y c (L.cells x c h1) (L.cells y c h2)
  has := fun x hx => L.has x hx
  cab := fun x c hx _ => by cases hx
  hd := I.ok.hd
  frames := I.ok.frames
  stk := .inl rfl
  exf := fun b hb => ⟨Nat.ne_of_lt (Nat.lt_of_lt_of_le (hlt b hb) hC),fun x c e => (hf b hb).2.2.2.2.1 x c (L.cells x c e)⟩
  bs := I.bs
  bsz := Nat.le_trans I.ok.bsz I.sz
  noex := fun b o e hb => by
    rcases (hf b hb).2.2.2.1 with z | z
    · exact I.ok.noex b o e z
    · exact absurd (Nat.lt_of_lt_of_le (Heap.lt_size (I.ok.bs b o e).1) z) (Nat.lt_irrefl _)
  exfs := fun b hb hz => by
    rcases List.mem_cons.mp (I.stkSub b hz) with z | z
    · exact (hf b hb).2.1 z
    · exact (hf b hb).2.2.1 z
  funs := I.stack
  frf := I.stkFree
theorem KC {n:Nat} {js:List Nat} {σ:St} {i:Nat} {v:V} (h:(jq n js σ)[i]? = some (some v)):∃ k j,i = n + k ∧ js[k]? = some j ∧ σ[j]? = some (some v) := by
  unfold jq at h
  by_cases hi:i < n
  · rw [List.getElem?_append_left (by simpa using hi),List.getElem?_replicate] at h
    split at h <;> cases h
  · rw [List.getElem?_append_right (by simpa using hi),List.length_replicate,List.getElem?_map] at h
    cases e:js[i - n]? with
    | none => rw [e] at h; cases h
    | some j =>
      rw [e] at h
      refine ⟨i - n,j,by omega,e,?_⟩
      cases e2:σ[j]? with
      | none => rw [Option.map_some,e2] at h; cases h
      | some o =>
        rw [Option.map_some,e2] at h
        have h':o = some v := Option.some.inj h
        rw [h']
theorem Inv.lc (L:LcOk X N n js scope cl) (I:Inv X pins σ H s) {fp:List Addr} (hf:∀ b ∈ fp,FpOk X pins H b) (hlt:∀ b ∈ fp,b < s.heap.objs.size) {D C:Addr} {h1:Heap} {m:Str → Option Value} {tk:Nat}
    (hD:s.heap.objs.size ≤ D) (hC:s.heap.objs.size ≤ C) (hDC:D ≠ C) (hn:h1.Ns C m) (old:∀ b o,s.heap.get? b = some o → h1.get? b = some o) {k:Nat} (hl:h1.get? D = some { cls := .type "list",data := .seq ([]:List Value).toArray k }) :
    Inv (xh X N scope cl C s H fp) [] (jq n js σ) (upd H D (.lst [])) { s with heap := h1,toks := tk } where
  ok := L.ok I hf hlt hC
  os := rfl
  bare := I.bare
  base := Un.laid old hD (I.hok.fresh hD)
  loc := by
    refine ⟨m,hn,fun i x v e1 e2 e3 => ?_⟩
    obtain ⟨k,j,rfl,ej,eσ⟩ := KC e2
    obtain ⟨j',c,ej',eN,kx,kr,ec⟩ := L.free k x e1
    rw [ej] at ej'
    cases ej'
    obtain ⟨mx,hmx,hl'⟩ := I.loc
    obtain ⟨u,r,lk⟩ := hl' j x v eN eσ (kx.elim (fun z => .inr (.inl z)) fun z => .inr (.inr z))
    refine ⟨u,r,.inr ⟨kr,c,ec,?_⟩⟩
    have hcx := L.cells x c ec
    rcases lk with ⟨z,_⟩ | ⟨_,c',e',hc'⟩
    · have z':X.env.scope.names.lookup x = some .local := z
      rcases kx with y | y <;> rw [y] at z' <;> cases z'
    · rw [hcx] at e'
      cases e'
      obtain ⟨o,ho,hd⟩ := hc'
      exact ⟨o,old _ _ ho,hd⟩
  cell := fun x c e => by
    obtain ⟨v,o,ho,hd⟩ := I.cell x c (L.cells x c e)
    exact ⟨v,o,old _ _ ho,hd⟩
  free := by
    show upd H D (.lst []) C = none
    rw [zi (Ne.symm hDC)]
    exact I.hok.fresh hC
  freeC := fun x c e => by
    obtain ⟨v,o,ho,hd⟩ := I.cell x c (L.cells x c e)
    rw [zi (Nat.ne_of_lt (Nat.lt_of_lt_of_le (Heap.lt_size ho) hD))]
    exact I.freeC x c (L.cells x c e)
  pin := fun p hp => absurd (show p ∈ ([]:List (Addr × Obj)) from hp) (by simp)
  hok := I.hok.laid old hD ⟨Nat.zero_le _,[],k,.nil,hl⟩
  len := by
    show (jq n js σ).length = N.length
    unfold jq
    rw [List.length_append,List.length_replicate,List.length_map]
    exact L.len
theorem Inv.unlc {fp:List Addr} {C:Addr} {σ':St} {H':Hp} {s':Shared} {h':Heap} (I:Inv X pins σ H s) (hf:∀ b ∈ fp,FpOk X pins H b) (hC:s.heap.objs.size ≤ C) (I':Inv (xh X N scope cl C s H fp) [] σ' H' s') (hs:Heap.SameBut C s'.heap h') :
    Inv X pins σ H' { s' with heap := h' } := by
  have nC:∀ b o,s.heap.get? b = some o → b ≠ C := fun b o e => Nat.ne_of_lt (Nat.lt_of_lt_of_le (Heap.lt_size e) hC)
  have hfree:H' C = none := I'.free
  have u := I'.base
  refine I.call' (ch := fp) (s' := { s' with heap := h' }) I'.os ⟨fun b o e n hb hx => ?_,fun b o e n hb hx => ?_,u.free,fun b o e hx => ?_,u.tups,u.frzs,u.tbls⟩ (fun b ob e => ?_) I'.bare fun b hb => ⟨(hf b hb).2.2.2.1,(hf b hb).2.1,(hf b hb).2.2.2.2.1,(hf b hb).2.2.2.2.2⟩
  · exact (hs.2 b (nC b o e)).trans (u.keep b o e n hb hx)
  · obtain ⟨sl,q⟩ := u.slot b o e n hb hx
    exact ⟨sl,(hs.2 b (nC b o e)).trans q⟩
  · obtain ⟨o',q⟩ := u.there b o e hx
    exact ⟨o',(hs.2 b (nC b o e)).trans q⟩
  · refine (I'.hok b ob e).stay (fun c w' hc q => (hs.2 c ?_).trans q) (fun _ q => q) fun _ _ q => q
    rintro rfl
    rcases hc with rfl | hc
    · rw [hfree] at e
      cases e
    · rw [hfree] at hc
      cases hc
noncomputable def tLc (wi:TI) (n:Nat) (js:List Nat) (g:TG) (tt:TT) (te:TE):TE := fun σ H Q => wi σ H fun J H1 => ∀ D,H1 D = none → ∃ W:Nat → Nat → St → Hp → Prop,(∃ m,W 0 m (jq n js σ) (upd H1 D (.lst []))) ∧ ∀ i m σ' H',W i m σ' H' →
  (J.stop i H' ∧ Q (.ref D) H') ∨ (J.go i H' ∧ ∃ Nx:St → Hp → Prop,(∀ σ2 H2,Nx σ2 H2 → ∃ m',m' < m ∧ W (i + 1) m' σ2 H2) ∧
    ∀ x H2,J.yld i H' x H2 → g x σ' H2 fun σ3 H3 => tt σ3 H3 fun ok H4 => if ok = true then te σ3 H4 fun y H5 => ∃ ys,H5 D = some (.lst ys) ∧ ys.length < sizeLine ∧ Nx σ3 (upd H5 D (.lst (ys ++ [y]))) else Nx σ3 H4)
theorem UA {elt tg iter:Expr} {ifs:List Expr} {pos:Pos} {g:TG} {tt:TT} {te:TE} {it:Addr} {fp:List Addr} {tn:Nat → Heap → Prop} {J:It} {Q:V → Hp → Prop} {E:Value → Shared → Prop} {RR:Value → Addr → Result → Shared → Prop}
    (L:LcOk X N n js scope cl) (hc:X.calm = true) (I:Inv X pins σ H s) (T:Turn X.prog X.w X.K tg J fp it tn) (t0:tn 0 s.heap) (hf:∀ b ∈ fp,FpOk X pins H b)
    (hg:∀ C s0 H0 fp0,PG (xh X N scope cl C s0 H0 fp0) tg g) (ht:∀ C s0 H0 fp0,PTs (xh X N scope cl C s0 H0 fp0) ifs tt) (he:∀ C s0 H0 fp0,PE (xh X N scope cl C s0 H0 fp0) elt te)
    (hw:∀ D,H D = none → ∃ W:Nat → Nat → St → Hp → Prop,(∃ m,W 0 m (jq n js σ) (upd H D (.lst []))) ∧ ∀ i m σ' H',W i m σ' H' →
      (J.stop i H' ∧ Q (.ref D) H') ∨ (J.go i H' ∧ ∃ Nx:St → Hp → Prop,(∀ σ2 H2,Nx σ2 H2 → ∃ m',m' < m ∧ W (i + 1) m' σ2 H2) ∧
        ∀ x H2,J.yld i H' x H2 → g x σ' H2 fun σ3 H3 => tt σ3 H3 fun ok H4 => if ok = true then te σ3 H4 fun y H5 => ∃ ys,H5 D = some (.lst ys) ∧ ys.length < sizeLine ∧ Nx σ3 (upd H5 D (.lst (ys ++ [y]))) else Nx σ3 H4))
    (fin:∀ D C σ' H' s',s.heap.objs.size ≤ C → Inv (xh X N scope cl C s H fp) [] σ' H' s' → Q (.ref D) H' → RR (.ref D) C (.ok .next) s') :
    wpAny (model X.prog X.w) X.A (newList []) (fun acc s1 => wpAny (model X.prog X.w) X.A (newFunctionEnv scope X.env.globals cl [] X.env.qual none .none (some X.env)) (fun cenv s2 =>
      codeAny (model X.prog X.w) X.A (.compStart (.ListComp elt [⟨tg,iter,ifs,0⟩] scope pos) 0 (.ref it) acc { cenv with scope := relabel scope X.env }) (RR acc cenv.locals) s2) E s1) E s := by
  refine wpAny_newObj_type (wpAny_newFunctionEnv L.nocell (by intro y hy; simp at hy) (fun h1 hn1 hs1 => ?_) L.kind)
  dsimp only at hn1 hs1 ⊢
  generalize hG:s.heap.push { cls := .type "list",dict := none,data := .seq ([]:List Value).toArray } = G at hn1 hs1 ⊢
  have eC:G.objs.size = s.heap.objs.size + 1 := by rw [← hG,Heap.size_push]
  have hC:s.heap.objs.size ≤ G.objs.size := by rw [eC]; exact Nat.le_succ _
  have hDC:s.heap.objs.size ≠ G.objs.size := by rw [eC]; exact Nat.ne_of_lt (Nat.lt_succ_self _)
  have hlt:∀ b ∈ fp,b < s.heap.objs.size := fun b hb => by
    obtain ⟨o,e,_⟩ := T.obj 0 _ t0 b hb
    exact Heap.lt_size e
  have old:∀ b o,s.heap.get? b = some o → h1.get? b = some o := fun b o e => by
    have hb := Heap.lt_size e
    exact hs1.extBut b o (Nat.ne_of_lt (Nat.lt_of_lt_of_le hb hC)) (Heap.get?_push_of_some _ (hG ▸ Heap.get?_push_of_some _ e))
  have hl:h1.get? s.heap.objs.size = some { cls := .type "list",data := .seq ([]:List Value).toArray 0 } := hs1.extBut _ _ hDC (Heap.get?_push_of_some _ (hG ▸ Heap.get?_push_size _ rfl))
  have I1:∀ tk,Inv (xh X N scope cl G.objs.size s H fp) [] (jq n js σ) (upd H s.heap.objs.size (.lst [])) { s with heap := h1,toks := tk } := fun tk => Inv.lc L I hf hlt (Nat.le_refl _) hC hDC hn1 old hl
  have t1:tn 0 h1 := T.keep _ _ _ t0 fun b _ o e => old b o e
  obtain ⟨W,⟨m0,w0⟩,step⟩ := hw s.heap.objs.size (I.hok.fresh (Nat.le_refl _))
  have fr1:∀ b ∈ fp,upd H s.heap.objs.size (.lst []) b = none := fun b hb => by
    rw [zi (Nat.ne_of_lt (hlt b hb))]
    exact (hf b hb).1
  have fps:∀ {H':Hp},(∀ b ∈ fp,H' b = none) → ∀ b ∈ fp,FpOk (xh X N scope cl G.objs.size s H fp) [] H' b := fun {H'} hn b hb => by
    refine ⟨hn b hb,Nat.ne_of_lt (Nat.lt_of_lt_of_le (hlt b hb) hC),fun hz => ?_,.inl hb,fun x c e => (hf b hb).2.2.2.2.1 x c (L.cells x c e),fun p hp => absurd (show p ∈ ([]:List (Addr × Obj)) from hp) (by simp)⟩
    rcases List.mem_cons.mp (I.stkSub b hz) with z | z
    · exact (hf b hb).2.1 z
    · exact (hf b hb).2.2.1 z
  have loop:∀ s0:Shared,s0 = { s with heap := h1,toks := s.toks + ([]:List (Str × Value)).length } →
      codeAny (model X.prog X.w) X.A (.compLoop (.ListComp elt [⟨tg,iter,ifs,0⟩] scope pos) 0 (.ref it) (.ref s.heap.objs.size) (compEnvC scope cl G.objs.size X.env)) (RR (.ref s.heap.objs.size) G.objs.size) s0 := by
    rintro s0 rfl
    refine zbZ (fun k s' => ∃ i σ' H',Inv (xh X N scope cl G.objs.size s H fp) [] σ' H' s' ∧ tn i s'.heap ∧ (∀ b ∈ fp,H' b = none) ∧ W i k σ' H') ?_ m0 ⟨0,_,_,I1 _,t1,fr1,w0⟩
    rintro k s3 ⟨i,σ3,H3,I3,t3,fr3,w3⟩
    rcases step i k σ3 H3 w3 with ⟨stop,qn⟩ | ⟨go,Nx,hN,body⟩
    · refine thn (T.done (xh X N scope cl G.objs.size s H fp) rfl rfl rfl hc i [] s3 σ3 H3 _ I3 (fps fr3) t3 stop) fun r s4 ⟨hr,I4⟩ => ?_
      subst hr
      exact fin _ _ σ3 H3 s4 hC I4 qn
    · refine thn (T.item (xh X N scope cl G.objs.size s H fp) rfl rfl rfl hc i [] s3 σ3 H3 _ I3 (fps fr3) t3 go) fun r s4 ⟨u,hr,h4⟩ => ?_
      subst hr
      refine thn h4 fun _ s5 ⟨x,H5,I5,r5,y5,t5,fr5⟩ => ?_
      have I5' := I5.pinned (fps fr5) (T.obj _ _ t5)
      refine thn (hg _ _ _ _ _ s5 σ3 H5 x u _ I5' r5 (body x H5 y5)) fun _ s6 ⟨σ6,H6,I6,q6⟩ => ?_
      have again:∀ {σ7:St} {H7:Hp} {s7:Shared},Inv (xh X N scope cl G.objs.size s H fp) ([] ++ jW fp s5.heap) σ7 H7 s7 → Nx σ7 H7 →
          ∃ j,j < k ∧ ∃ i σ' H',Inv (xh X N scope cl G.objs.size s H fp) [] σ' H' s7 ∧ tn i s7.heap ∧ (∀ b ∈ fp,H' b = none) ∧ W i j σ' H' := fun {σ7 H7 s7} I7 n7 => by
        obtain ⟨m',hm,w7⟩ := hN σ7 H7 n7
        refine ⟨m',hm,i + 1,σ7,H7,I7.unpinned,T.keep _ _ _ t5 fun b hb o e => (I7.pin (b,o) (List.mem_append_right _ (List.mem_append_right _ (uH hb e)))).1,fun b hb => ?_,w7⟩
        obtain ⟨o,e,_⟩ := T.obj _ _ t5 b hb
        exact (I7.pin (b,o) (List.mem_append_right _ (List.mem_append_right _ (uH hb e)))).2.1
      refine thn (ht _ _ _ _ _ s6 σ6 H6 _ I6 q6) fun ok s7 ⟨H7,I7,q7⟩ => ?_
      cases ok with
      | false =>
        rw [if_neg (by decide)] at q7 ⊢
        exact again I7 q7
      | true =>
        rw [if_pos rfl] at q7 ⊢
        refine thn (he _ _ _ _ _ s7 σ6 H7 _ I7 q7) fun v s8 ⟨y,H8,I8,r8,ys,e8,z8,q8⟩ => ?_
        refine thn (y6 _ s8 σ6 H8 (.ref s.heap.objs.size) [y] (.ref s.heap.objs.size) [v] (fun _ H9 => Nx σ6 H9) I8 rfl (.cons r8 .nil) ⟨_,ys,y,rfl,rfl,e8,z8,q8⟩) fun _ s9 ⟨_,H9,I9,_,q9⟩ => ?_
        exact again I9 q9
  exact codeAny_compStart_list (loop _ rfl) (T.self X.A 0 _ _ _ t1 (loop _ rfl))
theorem kO {elt tg iter:Expr} {ifs:List Expr} {pos:Pos} {wi:TI} {g:TG} {tt:TT} {te:TE} (L:LcOk X N n js scope cl) (hc:X.calm = true) (hi:PI X tg iter wi)
    (hg:∀ C s0 H0 fp0,PG (xh X N scope cl C s0 H0 fp0) tg g) (ht:∀ C s0 H0 fp0,PTs (xh X N scope cl C s0 H0 fp0) ifs tt) (he:∀ C s0 H0 fp0,PE (xh X N scope cl C s0 H0 fp0) elt te)
    (hs:∀ x,foldedSetIterable iter X.env x = pure x := by intro _; rfl):PE X (.ListComp elt [⟨tg,iter,ifs,0⟩] scope pos) (tLc wi n js g tt te) := by
  intro pins s σ H Q I h
  rw [eval_ListComp]
  refine wpAny_comprehension_free (use := none) rfl hs L.clos L.kind L.names (thn (hi pins s σ H _ I h) fun v s1 h1 => thn h1 fun itv s2 h2 => ?_)
  obtain ⟨it,fp,tn,J,H2,e,I2,T,t2,f2,hw⟩ := h2
  subst e
  refine UA (RR := fun acc C => compPost (model X.prog X.w) X.A X.xe none (EP X pins σ Q) acc C) L hc I2 T t2 f2 hg ht he hw ?_
  intro D C σ' H' s' hC I' q
  obtain ⟨m,hn,_⟩ := I'.loc
  exact ⟨m,hn,fun h' hs' => ⟨.ref D,H',I2.unlc f2 hC I' hs',rfl,q⟩⟩
theorem KF {i:Nat} {x:Str} {elt tg iter:Expr} {ifs:List Expr} {pos pos' spos:Pos} {wi:TI} {g:TG} {tt:TT} {te:TE} (hN:X.N.Nodup) (hx:X.N[i]? = some x) (hk:X.env.scope.names.lookup x = some .local)
    (L:LcOk X N n js scope cl) (hc:X.calm = true) (hi:PI X tg iter wi)
    (hg:∀ C s0 H0 fp0,PG (xh X N scope cl C s0 H0 fp0) tg g) (ht:∀ C s0 H0 fp0,PTs (xh X N scope cl C s0 H0 fp0) ifs tt) (he:∀ C s0 H0 fp0,PE (xh X N scope cl C s0 H0 fp0) elt te)
    (hsw:swapsWith (.ListComp elt [⟨tg,iter,ifs,0⟩] scope pos) (some (.Name x pos')) spos.line X.env = pure true := by rfl)
    (hs:∀ x,foldedSetIterable iter X.env x = pure x := by intro _; rfl):PS X (.Assign [.Name x pos'] (.ListComp elt [⟨tg,iter,ifs,0⟩] scope pos) spos) (XA (tLc wi n js g tt te) (kL i)) := by
  intro pins s σ H Dn I h
  rw [exec_Assign_Name_used _ _ _ _ hsw]
  refine wpAny_bind (wpAny_standAt (wpAny_bind ?_))
  show wpAny _ X.A (do let _ ← comprehension (.ListComp elt [⟨tg,iter,ifs,0⟩] scope pos) scope X.env _ (newList []) false (eval iter X.env) (some (assign (.Name x pos') X.env))) _ _ s
  refine wpAny_bind (thn (wpAny_comprehension_free (use := some (assign (.Name x pos') X.env)) (Q := fun _ s' => SP X pins Dn .next s') rfl hs L.clos L.kind L.names (thn (hi pins s σ H _ I h) fun v s1 h1 => thn h1 fun itv s2 h2 => ?_)) fun _ s' hq => wpAny_pure (wpAny_pure hq))
  obtain ⟨it,fp,tn,J,H2,e,I2,T,t2,f2,hw⟩ := h2
  subst e
  refine UA (Q := fun x H1 => kL i x σ H1 Dn.nx) (RR := fun acc C => compPost (model X.prog X.w) X.A X.xe (some (assign (.Name x pos') X.env)) (fun _ s' => SP X pins Dn .next s') acc C) L hc I2 T t2 f2 hg ht he hw ?_
  intro D C σ' H' s' hC I' q
  obtain ⟨m,hn,_⟩ := I'.loc
  have I3:Inv X pins σ H' s' := I2.unlc (h' := s'.heap) f2 hC I' (.refl ..)
  show wpAny _ X.A (assign (.Name x pos') X.env (.ref D)) _ X.xe s'
  refine wpAny_assign_Name (YO (v := .ref D) I3 hN hx (.inl hk) rfl (fun s4 I4 hb => ?_) (.inr hk))
  obtain ⟨a,hsa,ha⟩ := hb
  have bl:∀ b o,s2.heap.get? b = some o → b ≠ C := fun b o e => Nat.ne_of_lt (Nat.lt_of_lt_of_le (Heap.lt_size e) hC)
  have hL:C ≠ X.env.locals := fun z => absurd (Nat.lt_of_lt_of_le I2.lt (z ▸ hC)) (Nat.lt_irrefl _)
  have hcl:∀ y c,X.env.cells.lookup y = some c → c ≠ C := fun y c e => by
    obtain ⟨v,o,ho,_⟩ := I2.cell y c e
    exact bl c o ho
  have hCa:C ≠ a := by
    rcases ha with rfl | ha
    · exact hL
    · exact Ne.symm (hcl _ _ ha)
  exact ⟨m,hn.sameBut hsa hCa,fun h' hs' => ⟨_,H',I4.turned (h' := h') (t' := s4.toks) (it := C) (fun b o hb e => (hs'.2 b hb).trans e) I'.free hL (.inr (Nat.le_trans I2.sz hC)) hcl (fun p hp => bl _ _ (I2.pin p hp).1),q⟩⟩
end
end L2
namespace L2
open PySem PySem.Spec PyProof.Rows
structure Cal (P:Program) (w:World) (K:PySem.W.Frag) (mg:Str → Option Value) (base:Heap) (k:Nat) (x:Str) (dvs:List V) (sp:Sp):Prop where
  ex:∃ (f:Addr) (fd:FuncData) (ps:List Str) (ds:List Value),FnOk P w K mg base CX0 k f fd ps sp ∧ mg x = some (.ref f) ∧ PySem.W.keepIn K (.ref f) = true ∧ Binds K fd ps ds ∧ Vals dvs ds
section
variable {X:Cx} {k:Nat} {sp:Sp} {dvs:List V} {x:Str} {p pos:Pos} {e:Expr} {es:List Expr} {t:TA}
theorem zk (c:Cal X.prog X.w X.K X.mg X.base k x dvs sp) (hr:Room k X.A) (hg:Gl X x) (ha:PA X (e :: es) t) (hdb:(x == ("__debug__":Str)) = false := by decide)
    (he:starEach (e :: es) X.env = (false,eval e X.env) :: starEach es X.env := by rfl) (hpl:(backTo pos (starEach es X.env)).any (·.1) = false := by rfl):PE X (.Call (.Name x p) (e :: es) [] pos) (ZC sp dvs E0 t) := by
  obtain ⟨f,fd,ps,ds,F,hm,hk,hb,hd⟩ := c.ex
  exact zbU F hr hg hm hk hb hd Qf ha hdb he hpl
end
section
variable {X:Cx}
theorem zdC:OpR X (compareOp .Is) (fun x y H Q => ∃ b,y = .bl b ∧ Q (.bl (decide (x = .bl b))) H) := by
  intro pins s σ H x y v u Q I rx ry h
  obtain ⟨b,rfl,q⟩ := h
  cases ry
  refine wpAny_is_plain ?_ (yi I q ?_)
  all_goals cases x <;> first
    | (obtain ⟨t,rfl⟩ := rx; rfl)
    | (cases rx; rfl)
    | (cases rx; rename_i c; cases c <;> cases b <;> rfl)
theorem V5:y9 X (.builtin "isinstance") (fun xs H Q => ∃ x n t b,xs = [x,.ty n] ∧ TyOf X.K H x t ∧ PySem.W.kitOne X.K t (.type n) = some b ∧ Q (.bl b) H) := by
  intro pins s σ H xs us Q I r h
  obtain ⟨x,n,t,b,rfl,ty,e,q⟩ := h
  obtain ⟨u,c,rfl,ru,rc⟩ := r.two
  cases rc
  exact Jl I ru ty e fun tk => ⟨.bl b,H,I.tok tk,rfl,q⟩
noncomputable def zeR (K:PySem.W.Frag) (H:Hp) (x:V):Prop := ∃ n,TyOf K H x (.type n) ∧ (n = "NoneType" ∨ n = "str" ∨ n = "list" ∨ n = "tuple" ∨ n = "dict")
noncomputable def Th (K:PySem.W.Frag) (H:Hp) (x:V):Option Int → Prop
  | some i => x = .int i
  | none => (∃ b,x = .bl b) ∨ zeR K H x
end
mutual
noncomputable def Rep (K:PySem.W.Frag) (H:Hp):PyData → V → Prop
  | .none,x => x = .non
  | .bool b,x => x = .bl b
  | .int i,x => x = .int i
  | .str z,x => x = .str z
  | .list ds,x => ∃ a xs,x = .ref a ∧ SqL K H a xs ∧ Reps K H ds xs
  | .tuple ds,x => ∃ a xs,x = .ref a ∧ SqT K H a xs ∧ Reps K H ds xs
  | .dict kvs,x => kvs = [] ∧ ∃ a,x = .ref a ∧ Rd H a (.dK [])
noncomputable def Reps (K:PySem.W.Frag) (H:Hp):List PyData → List V → Prop
  | [],xs => xs = []
  | d :: ds,xs => ∃ x r,xs = x :: r ∧ Rep K H d x ∧ Reps K H ds r
end
theorem SqL.same {K:PySem.W.Frag} {H H':Hp} {a:Addr} {xs:List V} (e:Same H H') (h:SqL K H a xs):SqL K H' a xs := e.seq h
theorem SqT.same {K:PySem.W.Frag} {H H':Hp} {a:Addr} {xs:List V} (e:Same H H') (h:SqT K H a xs):SqT K H' a xs := by
  rcases h with (h | ⟨o,h⟩) | h
  · exact .inl (.inl (e _ _ h))
  · exact .inl (.inr ⟨o,e _ _ h⟩)
  · exact .inr h
mutual
theorem Rep.same {K:PySem.W.Frag} {H H':Hp} (e:Same H H'):∀ (d:PyData) (x:V),Rep K H d x → Rep K H' d x
  | .none,_,h => h
  | .bool _,_,h => h
  | .int _,_,h => h
  | .str _,_,h => h
  | .list ds,x,h => by
    obtain ⟨a,xs,e1,h1,h2⟩ := h
    exact ⟨a,xs,e1,h1.same e,Reps.same e ds xs h2⟩
  | .tuple ds,x,h => by
    obtain ⟨a,xs,e1,h1,h2⟩ := h
    exact ⟨a,xs,e1,h1.same e,Reps.same e ds xs h2⟩
  | .dict _,_,h => by
    obtain ⟨e1,a,e2,h1⟩ := h
    refine ⟨e1,a,e2,?_⟩
    rcases h1 with h1 | ⟨o,h1⟩
    · exact .inl (e _ _ h1)
    · exact .inr ⟨o,e _ _ h1⟩
theorem Reps.same {K:PySem.W.Frag} {H H':Hp} (e:Same H H'):∀ (ds:List PyData) (xs:List V),Reps K H ds xs → Reps K H' ds xs
  | [],_,h => h
  | d :: ds,xs,h => by
    obtain ⟨x,r,e1,h1,h2⟩ := h
    exact ⟨x,r,e1,Rep.same e d x h1,Reps.same e ds r h2⟩
end
theorem Reps.length {K:PySem.W.Frag} {H:Hp}:∀ {ds:List PyData} {xs:List V},Reps K H ds xs → ds.length = xs.length
  | [],xs,h => by
    cases (show xs = [] from h)
    rfl
  | d :: ds,_,h => by
    obtain ⟨x,r,rfl,_,h2⟩ := h
    rw [List.length_cons,List.length_cons,h2.length]
theorem Reps.get {K:PySem.W.Frag} {H:Hp}:∀ {ds:List PyData} {xs:List V} (i:Nat) {x:V},Reps K H ds xs → xs[i]? = some x → ∃ d,ds[i]? = some d ∧ Rep K H d x
  | [],_,i,x,h,e => by
    rw [show _ = _ from h] at e
    cases e
  | d :: ds,_,i,x,h,e => by
    obtain ⟨y,r,rfl,h1,h2⟩ := h
    cases i with
    | zero =>
      cases e
      exact ⟨d,rfl,h1⟩
    | succ i =>
      obtain ⟨d',e',h'⟩ := h2.get i (x := x) (by simpa using e)
      exact ⟨d',by simpa using e',h'⟩
theorem Reps.snoc {K:PySem.W.Frag} {H:Hp}:∀ {ds:List PyData} {xs:List V} {d:PyData} {x:V},Reps K H ds xs → Rep K H d x → Reps K H (ds ++ [d]) (xs ++ [x])
  | [],_,d,x,h,h' => by
    rw [show _ = _ from h]
    exact ⟨x,[],rfl,h',rfl⟩
  | d0 :: ds,_,d,x,h,h' => by
    obtain ⟨y,r,rfl,h1,h2⟩ := h
    exact ⟨y,r ++ [x],rfl,h1,h2.snoc h'⟩
mutual
theorem Rep.reads {X:Cx} {pins:List (Addr × Obj)} {σ:St} {H:Hp} {s:Shared} (I:Inv X pins σ H s):∀ (d:PyData) (x:V) (u:Value),Rep X.K H d x → RelV x u → ∃ as,Reads s.heap u d as
  | .none,x,u,h,r => by
    cases (show x = V.non from h)
    cases r
    exact ⟨_,.none⟩
  | .bool b,x,u,h,r => by
    cases (show x = V.bl b from h)
    cases r
    exact ⟨_,.bool b⟩
  | .int i,x,u,h,r => by
    cases (show x = V.int i from h)
    obtain ⟨t,rfl⟩ := r
    exact ⟨_,.int i t⟩
  | .str z,x,u,h,r => by
    cases (show x = V.str z from h)
    obtain ⟨t,rfl⟩ := r
    exact ⟨_,.str z t⟩
  | .list ds,x,u,h,r => by
    obtain ⟨a,xs,rfl,h1,h2⟩ := h
    cases r
    obtain ⟨its,rv,⟨o,n,e,c,_,dt⟩,_⟩ := I.list h1
    obtain ⟨as,q⟩ := Reps.reads I ds xs its h2 rv
    exact ⟨_,.list e c dt (by simpa using q)⟩
  | .tuple ds,x,u,h,r => by
    obtain ⟨a,xs,rfl,h1,h2⟩ := h
    cases r
    obtain ⟨its,rv,⟨o,e,c,n,dt⟩,_⟩ := I.tuple h1
    obtain ⟨as,q⟩ := Reps.reads I ds xs its h2 rv
    exact ⟨_,.tuple e c dt (by simpa using q)⟩
  | .dict kvs,x,u,h,r => by
    obtain ⟨rfl,a,rfl,h1⟩ := h
    cases r
    obtain ⟨_,_,vs,kv,dd⟩ := (show yY X.prog X.w H s.heap a (.dK []) from h1.ok I.hok)
    cases kv
    obtain ⟨o,es,ep,h2,h3,h4,_,h5,_⟩ := dd
    have e0:es = #[] := by
      have := h5.length
      exact Array.eq_empty_of_size_eq_zero (by simpa using this)
    subst e0
    exact ⟨_,.dict h2 h3.1 h4 .nil .nil⟩
theorem Reps.reads {X:Cx} {pins:List (Addr × Obj)} {σ:St} {H:Hp} {s:Shared} (I:Inv X pins σ H s):∀ (ds:List PyData) (xs:List V) (us:List Value),Reps X.K H ds xs → Vals xs us → ∃ as,ReadsAll s.heap us ds as
  | [],xs,us,h,r => by
    cases (show xs = [] from h)
    cases r
    exact ⟨_,.nil⟩
  | d :: ds,xs,us,h,r => by
    obtain ⟨x,xN,rfl,h1,h2⟩ := h
    cases r with
    | cons r1 r2 =>
      obtain ⟨as,q⟩ := Rep.reads I d x _ h1 r1
      obtain ⟨bs,q2⟩ := Reps.reads I ds xN _ h2 r2
      exact ⟨_,.cons q q2⟩
end
section
variable {X:Cx}
noncomputable def KG (K:PySem.W.Frag):R2 := fun x y H Q => ∃ d e,Rep K H d x ∧ Rep K H e y ∧ SeqAt.shaped d = true ∧ SeqAt.shaped e = true ∧ Q (.bl (PyData.eqv d e)) H
noncomputable def KH (K:PySem.W.Frag):R2 := fun x y H Q => ∃ d e,Rep K H d x ∧ Rep K H e y ∧ SeqAt.shaped d = true ∧ SeqAt.shaped e = true ∧ Q (.bl (!PyData.eqv d e)) H
theorem zdD (hu:X.A.units + 64 < cLine):OpR X (compareOp .Eq) (KG X.K) := by
  intro pins s σ H x y v u Q I rx ry h
  obtain ⟨d,e,h1,h2,s1,s2,q⟩ := h
  obtain ⟨as,r1⟩ := Rep.reads I d x v h1 rx
  obtain ⟨bs,r2⟩ := Rep.reads I e y u h2 ry
  exact eq_dataH r1 r2 s1 s2 hu ⟨.bl _,H,I,rfl,q⟩
theorem zdE (hu:X.A.units + 64 < cLine):OpR X (compareOp .NotEq) (KH X.K) := by
  intro pins s σ H x y v u Q I rx ry h
  obtain ⟨d,e,h1,h2,s1,s2,q⟩ := h
  obtain ⟨as,r1⟩ := Rep.reads I d x v h1 rx
  obtain ⟨bs,r2⟩ := Rep.reads I e y u h2 ry
  exact ne_dataH r1 r2 s1 s2 hu ⟨.bl _,H,I,rfl,q⟩
end
end L2
namespace L2
open PySem PySem.Spec PyProof.Rows
noncomputable def XR:Expr → Bool
  | .Starred .. => false
  | _ => true
theorem Y5 {e:Expr} {es:List Expr} {env:Env} (h:XR e = true):starEach (e :: es) env = (false,eval e env) :: starEach es env := by
  cases e <;> first | rfl | cases h
structure QA (X:Cx) (es:List Expr) (t:TA):Prop where
  pa:PA X es t
theorem qn {X:Cx}:QA X [] j4 := ⟨zdu⟩
theorem qc {X:Cx} {e:Expr} {es:List Expr} {te:TE} {t:TA} (ha:PE X e te) (hr:QA X es t) (h:XR e = true := by rfl):QA X (e :: es) (uJ te t) := ⟨zbT ha hr.pa (Y5 h)⟩
theorem xx {X:Cx} {es:List Expr} {t:TA} {pos:Pos} (h:QA X es t):PE X (.List es pos) (XH t) := Jn h.pa
theorem yq {X:Cx} {es:List Expr} {t:TA} {pos:Pos} {k:Nat} (h:QA X es t):PE X (.Tuple es k pos) (U9 t) := Jm h.pa
noncomputable def Sm (a:Int):Prop := -1000000000000 ≤ a ∧ a ≤ 1000000000000
theorem Sm.mulL {a b:Int} (h:Sm a):Yj a b := .inl ⟨Int.lt_of_lt_of_le (by decide) h.1,Int.lt_of_le_of_lt h.2 (by decide)⟩
theorem Sm.mulR {a b:Int} (h:Sm b):Yj a b := .inr ⟨Int.lt_of_lt_of_le (by decide) h.1,Int.lt_of_le_of_lt h.2 (by decide)⟩
theorem zb0 {a b:Int} (h1:-1000000000000 ≤ a) (h2:a ≤ 1000000000000):Yj a b := Sm.mulL ⟨h1,h2⟩
theorem KI {a b:Int} (h1:-1000000000000 ≤ b) (h2:b ≤ 1000000000000):Yj a b := Sm.mulR ⟨h1,h2⟩
theorem xS {H:Hp} {p:Addr} {o:HO} (hp:H p = none):Same H (upd H p o) := fun b u e => by
  rw [zi (y8 e hp)]
  exact e
theorem uS {H H':Hp} {r:Addr} {o:HO} (hs:Same H H') (hr:H r = none):Same H (upd H' r o) := fun b u e => by
  rw [zi (y8 e hr)]
  exact hs b u e
noncomputable def ZE (n:Nat) (g:TG) (tb:TS) (D:Ends) (σ:St) (H:Hp):Prop := ∃ W:Nat → Nat → St → Hp → Prop,(∃ m,W 0 m σ H) ∧ ∀ i m σ H,W i m σ H →
  ((Itr 0 n).stop i H ∧ D.nx σ H) ∨ ((Itr 0 n).go i H ∧ ∃ N:St → Hp → Prop,(∀ σ' H',N σ' H' → ∃ m',m' < m ∧ W (i + 1) m' σ' H') ∧ ∀ x H',(Itr 0 n).yld i H x H' → g x σ H' fun σ2 H2 => tb { D with nx := N,ct := N,bk := D.nx } σ2 H2)
theorem ZE.by {n:Nat} {g:TG} {tb:TS} {D:Ends} {σ:St} {H:Hp} (Pv:Nat → St → Hp → Prop) (h0:Pv 0 σ H)
    (hs:∀ i σ H,i < n → Pv i σ H → g (.int i) σ H fun σ2 H2 => tb { D with nx := Pv (i + 1),ct := Pv (i + 1),bk := D.nx } σ2 H2) (hd:∀ σ H,Pv n σ H → D.nx σ H):ZE n g tb D σ H :=
  Jf (lo := 0) (n := n) Pv h0 (fun i σ H hi p => by rw [Int.zero_add]; exact hs i σ H hi p) hd
theorem ZE.run {n:Nat} {g:TG} {tb:TS} {D:Ends} {σ:St} {H:Hp} (Pv:Nat → St → Hp → Prop) (h0:Pv 0 σ H)
    (hs:∀ i σ H,i < n → Pv i σ H → ∀ R:St → Hp → Prop,(∀ σ' H',Pv (i + 1) σ' H' → R σ' H') → g (.int i) σ H fun σ2 H2 => tb { D with nx := R,ct := R,bk := D.nx } σ2 H2) (hd:∀ σ H,Pv n σ H → D.nx σ H):ZE n g tb D σ H :=
  ZE.by Pv h0 (fun i σ H hi p => hs i σ H hi p _ fun _ _ z => z) hd
noncomputable def ZF (K:PySem.W.Frag) (a:Addr) (g:TG) (tb:TS) (D:Ends) (σ:St) (H:Hp):Prop := ∃ W:Nat → Nat → St → Hp → Prop,(∃ m,W 0 m σ H) ∧ ∀ i m σ H,W i m σ H →
  ((Itl K a).stop i H ∧ D.nx σ H) ∨ ((Itl K a).go i H ∧ ∃ N:St → Hp → Prop,(∀ σ' H',N σ' H' → ∃ m',m' < m ∧ W (i + 1) m' σ' H') ∧ ∀ x H',(Itl K a).yld i H x H' → g x σ H' fun σ2 H2 => tb { D with nx := N,ct := N,bk := D.nx } σ2 H2)
theorem ZF.by {K:PySem.W.Frag} {a:Addr} {xs:List V} {g:TG} {tb:TS} {D:Ends} {σ:St} {H:Hp} (Pv:Nat → St → Hp → Prop) (h0:Pv 0 σ H) (hl:∀ i σ H,i ≤ xs.length → Pv i σ H → SqL K H a xs)
    (hs:∀ i x σ H,xs[i]? = some x → Pv i σ H → g x σ H fun σ2 H2 => tb { D with nx := Pv (i + 1),ct := Pv (i + 1),bk := D.nx } σ2 H2) (hd:∀ σ H,Pv xs.length σ H → D.nx σ H):ZF K a g tb D σ H :=
  Km Pv h0 hl hs hd
theorem ZF.run {K:PySem.W.Frag} {a:Addr} {xs:List V} {g:TG} {tb:TS} {D:Ends} {σ:St} {H:Hp} (Pv:Nat → St → Hp → Prop) (h0:Pv 0 σ H) (hl:∀ i σ H,i ≤ xs.length → Pv i σ H → SqL K H a xs)
    (hs:∀ i x σ H,xs[i]? = some x → Pv i σ H → ∀ R:St → Hp → Prop,(∀ σ' H',Pv (i + 1) σ' H' → R σ' H') → g x σ H fun σ2 H2 => tb { D with nx := R,ct := R,bk := D.nx } σ2 H2) (hd:∀ σ H,Pv xs.length σ H → D.nx σ H):ZF K a g tb D σ H :=
  ZF.by Pv h0 hl (fun i x σ H hi p => hs i x σ H hi p _ fun _ _ z => z) hd
structure FunD (K:PySem.W.Frag) (x qual:Str) (st:Stmt) (ds:List Value) (f:Addr) (fd:FuncData):Prop where
  ex:∃ (oc:Value) (od:Option Addr) (kV doc pm:Value) (an:Option Addr) (cdv ct:Value) (osl:Array (Option Value)) (T:Addr) (oT:Obj) (n:Nat),
    fd = PySem.W.fnOf x qual (defArgs st) (defBody st) (defScope st) (.ref T) kV doc pm an cdv ct ∧ K.lookup f = some ⟨oc,od,.func fd,osl⟩ ∧ PySem.W.codeIn K cdv qual = true ∧ K.lookup T = some oT ∧ oT.data = .seq ds.toArray n
  kp:PySem.W.keepIn K (.ref f) = true
section
variable {P:Program} {w:World} {K:PySem.W.Frag} {mg:Str → Option Value} {base:Heap}
theorem FunD.ok {x qual:Str} {st:Stmt} {ds:List Value} {f:Addr} {fd:FuncData} {N ps:List Str} {k:Nat} {sp:Sp} (F:FunD K x qual st ds f fd) (S:FnScope N ps (defScope st)) (len:∀ vs H Q E,sp vs H Q E → vs.length = ps.length)
    (hbody:∀ (cdv:Value) (A:Around) (outer:List Env) (s:Shared) (H:Hp) (vs:List V) (Q:VK) (E:XK),Room k (A.deeper (envOfC qual (defScope st) s.heap.objs.size f cdv)) → sp vs H Q E →
      ∃ t,PSs (uR CX0 P w K mg base N qual (defScope st) f cdv A outer s H E).nox (defBody st) t ∧ t { nx := fun _ H' => Q .non H',rt := Q } (L2.start N vs) H):FnOk P w K mg base CX0 (k + 1) f fd ps sp := by
  obtain ⟨oc,od,kV,doc,pm,an,cdv,ct,osl,T,oT,n,rfl,lk,hcd,_,_⟩ := F.ex
  refine zaZ lk hcd S len fun A outer s H vs Q E hr hsp => ?_
  obtain ⟨t,h,q⟩ := hbody cdv A outer s H vs Q E hr hsp
  exact ⟨t,h.nox,q⟩
theorem FunD.binds {x qual:Str} {st:Stmt} {ds es:List Value} {f:Addr} {fd:FuncData} {ps:List Str} (F:FunD K x qual st ds f fd)
    (h:∀ (T:Addr) (kV doc pm:Value) (an:Option Addr) (cdv ct:Value) (us:List Value),(us ++ es).length = ps.length →
      ∃ k,bindArgs (PySem.W.fnOf x qual (defArgs st) (defBody st) (defScope st) (.ref T) kV doc pm an cdv ct) ⟨us,[]⟩ = seqItems? (PySem.W.fnOf x qual (defArgs st) (defBody st) (defScope st) (.ref T) kV doc pm an cdv ct).defaults >>= k ∧ k (some ds.toArray) = pure (ps.zip (us ++ es))):Binds K fd ps es := by
  obtain ⟨oc,od,kV,doc,pm,an,cdv,ct,osl,T,oT,n,rfl,lk,hcd,hT,hd⟩ := F.ex
  intro s us hK hl
  obtain ⟨k,h1,h2⟩ := h T kV doc pm an cdv ct us hl
  exact .of_defaults rfl (hK _ _ hT) hd h1 h2
end
end L2
namespace L2
open PySem PySem.Spec PyProof.Rows
theorem qC {α:Type} {x:Str} {c:α}:∀ {l:List (Str × α)},l.lookup x = some c → (x,c) ∈ l
  | [],h => by cases h
  | (y,d) :: l,h => by
    rw [List.lookup_cons] at h
    cases e:x == y with
    | true =>
      rw [e] at h
      have h1:x = y := by simpa using e
      have h2:d = c := Option.some.inj h
      rw [h1,h2]
      exact List.mem_cons_self
    | false =>
      rw [e] at h
      exact List.mem_cons_of_mem _ (qC h)
noncomputable def Yp (k:Option NameKind):Bool := match k with
  | some .cell => true
  | some .free => true
  | _ => false
theorem UB {k:Option NameKind} (h:Yp k = true):k = some .cell ∨ k = some .free := by
  unfold Yp at h
  split at h
  · exact .inl rfl
  · exact .inr rfl
  · cases h
inductive CellsIn (big:List (Str × Addr)):List (Str × Addr) → Prop
  | nil:CellsIn big []
  | cons {x:Str} {c:Addr} {l:List (Str × Addr)}:big.lookup x = some c → CellsIn big l → CellsIn big ((x,c) :: l)
theorem CellsIn.mem {big:List (Str × Addr)} {x:Str} {c:Addr}:∀ {l:List (Str × Addr)},CellsIn big l → (x,c) ∈ l → big.lookup x = some c
  | _,.nil,h => by cases h
  | _,.cons e r,h => by
    rcases List.mem_cons.mp h with z | z
    · cases z
      exact e
    · exact r.mem z
theorem qD {X:Cx} {N:List Str} {n:Nat} {js:List Nat} {scope:Scope} {cl:List (Str × Addr)} (clos:closureFor scope X.env = pure cl := by rfl) (nocell:(scope.names.all fun y => !(y.2 == .cell)) = true := by rfl) (kind:scope.kind = .function := by rfl)
    (names:(scope.names.all fun y => !(y.2 == .local) || scope.names.lookup y.1 == some .local) = true := by rfl) (cells:CellsIn X.env.cells cl := by repeat' first | exact CellsIn.nil | refine CellsIn.cons rfl ?_)
    (has:((relabel scope X.env).names.all fun y => !(Yp (some y.2)) || (cl.lookup y.1).isSome) = true := by rfl) (len:n + js.length = N.length := by rfl)
    (free:((N.drop n).zip js).all (fun p => X.N[p.2]? == some p.1 && Yp (X.env.scope.names.lookup p.1) && Yp ((relabel scope X.env).names.lookup p.1) && (cl.lookup p.1).isSome) = true := by rfl):LcOk X N n js scope cl where
  clos := clos
  nocell := fun y hy e => by
    have h := List.all_eq_true.mp nocell y hy
    rw [e] at h
    cases h
  kind := kind
  names := fun y hy e => by
    have h := List.all_eq_true.mp names y hy
    rw [e] at h
    simpa using h
  cells := fun x c h => cells.mem (qC h)
  has := fun x h => by
    have key:∀ k,(relabel scope X.env).names.lookup x = some k → Yp (some k) = true → ∃ c,cl.lookup x = some c := fun k e hk => by
      have h1 := List.all_eq_true.mp has (x,k) (qC e)
      rw [hk] at h1
      exact Option.isSome_iff_exists.mp (by simpa using h1)
    rcases h with h | h
    · exact key _ h rfl
    · exact key _ h rfl
  len := len
  free := fun i x h => by
    have hd:(N.drop n)[i]? = some x := by rw [List.getElem?_drop]; exact h
    have hi:i < (N.drop n).length := (List.getElem?_eq_some_iff.mp hd).1
    have hj:i < js.length := by rw [List.length_drop] at hi; omega
    have hz:((N.drop n).zip js)[i]? = some (x,js[i]) := by
      rw [List.getElem?_zip_eq_some]
      exact ⟨hd,List.getElem?_eq_getElem hj⟩
    have h1 := List.all_eq_true.mp free (x,js[i]) (List.mem_of_getElem? hz)
    simp only [Bool.and_eq_true,beq_iff_eq] at h1
    obtain ⟨⟨⟨a1,a2⟩,a3⟩,a4⟩ := h1
    obtain ⟨c,hc⟩ := Option.isSome_iff_exists.mp a4
    exact ⟨js[i],c,List.getElem?_eq_getElem hj,a1,UB a2,UB a3,hc⟩
noncomputable def LcL (K:PySem.W.Frag) (a:Addr) (g:TG) (tt:TT) (te:TE) (σ0:St) (H1:Hp) (Q:VK):Prop := ∀ D,H1 D = none → ∃ W:Nat → Nat → St → Hp → Prop,(∃ m,W 0 m σ0 (upd H1 D (.lst []))) ∧ ∀ i m σ' H',W i m σ' H' →
  ((Itl K a).stop i H' ∧ Q (.ref D) H') ∨ ((Itl K a).go i H' ∧ ∃ Nx:St → Hp → Prop,(∀ σ2 H2,Nx σ2 H2 → ∃ m',m' < m ∧ W (i + 1) m' σ2 H2) ∧
    ∀ x H2,(Itl K a).yld i H' x H2 → g x σ' H2 fun σ3 H3 => tt σ3 H3 fun ok H4 => if ok = true then te σ3 H4 fun y H5 => ∃ ys,H5 D = some (.lst ys) ∧ ys.length < sizeLine ∧ Nx σ3 (upd H5 D (.lst (ys ++ [y]))) else Nx σ3 H4)
theorem LcL.by {K:PySem.W.Frag} {a:Addr} {xs:List V} {g:TG} {tt:TT} {te:TE} {σ0:St} {H1:Hp} {Q:VK} (Pv:Addr → Nat → St → Hp → Prop) (h0:∀ D,H1 D = none → Pv D 0 σ0 (upd H1 D (.lst [])))
    (hl:∀ D i σ H,H1 D = none → i ≤ xs.length → Pv D i σ H → SqL K H a xs)
    (hs:∀ D i x σ H,H1 D = none → xs[i]? = some x → Pv D i σ H → g x σ H fun σ3 H3 => tt σ3 H3 fun ok H4 => if ok = true then te σ3 H4 fun y H5 => ∃ ys,H5 D = some (.lst ys) ∧ ys.length < sizeLine ∧ Pv D (i + 1) σ3 (upd H5 D (.lst (ys ++ [y]))) else Pv D (i + 1) σ3 H4)
    (hd:∀ D σ H,H1 D = none → Pv D xs.length σ H → Q (.ref D) H):LcL K a g tt te σ0 H1 Q := by
  intro D hD
  refine ⟨fun i m σ H => m = xs.length - i ∧ i ≤ xs.length ∧ Pv D i σ H,⟨xs.length,by simp,Nat.zero_le _,h0 D hD⟩,?_⟩
  rintro i m σ H ⟨rfl,hi,p⟩
  have q := hl D i σ H hD hi p
  by_cases hlt:i < xs.length
  · refine .inr ⟨⟨xs,xs[i],q,by simp [hlt]⟩,Pv D (i + 1),fun σ' H' p' => ⟨xs.length - (i + 1),by omega,rfl,hlt,p'⟩,fun x H' y => ?_⟩
    obtain ⟨e,y⟩ := y
    subst e
    exact hs D i x σ _ hD (y xs q) p
  · have e:i = xs.length := by omega
    subst e
    exact .inl ⟨⟨xs,q,Nat.le_refl _⟩,hd D σ H hD p⟩
noncomputable def LcR (n0:Nat) (g:TG) (tt:TT) (te:TE) (σ0:St) (H1:Hp) (Q:VK):Prop := ∀ D,H1 D = none → ∃ W:Nat → Nat → St → Hp → Prop,(∃ m,W 0 m σ0 (upd H1 D (.lst []))) ∧ ∀ i m σ' H',W i m σ' H' →
  ((Itr 0 n0).stop i H' ∧ Q (.ref D) H') ∨ ((Itr 0 n0).go i H' ∧ ∃ Nx:St → Hp → Prop,(∀ σ2 H2,Nx σ2 H2 → ∃ m',m' < m ∧ W (i + 1) m' σ2 H2) ∧
    ∀ x H2,(Itr 0 n0).yld i H' x H2 → g x σ' H2 fun σ3 H3 => tt σ3 H3 fun ok H4 => if ok = true then te σ3 H4 fun y H5 => ∃ ys,H5 D = some (.lst ys) ∧ ys.length < sizeLine ∧ Nx σ3 (upd H5 D (.lst (ys ++ [y]))) else Nx σ3 H4)
theorem LcR.by {n0:Nat} {g:TG} {tt:TT} {te:TE} {σ0:St} {H1:Hp} {Q:VK} (Pv:Addr → Nat → St → Hp → Prop) (h0:∀ D,H1 D = none → Pv D 0 σ0 (upd H1 D (.lst [])))
    (hs:∀ D i σ H,H1 D = none → i < n0 → Pv D i σ H → g (.int i) σ H fun σ3 H3 => tt σ3 H3 fun ok H4 => if ok = true then te σ3 H4 fun y H5 => ∃ ys,H5 D = some (.lst ys) ∧ ys.length < sizeLine ∧ Pv D (i + 1) σ3 (upd H5 D (.lst (ys ++ [y]))) else Pv D (i + 1) σ3 H4)
    (hd:∀ D σ H,H1 D = none → Pv D n0 σ H → Q (.ref D) H):LcR n0 g tt te σ0 H1 Q := by
  intro D hD
  refine ⟨fun i m σ H => m = n0 - i ∧ i ≤ n0 ∧ Pv D i σ H,⟨n0,by simp,Nat.zero_le _,h0 D hD⟩,?_⟩
  rintro i m σ H ⟨rfl,hi,p⟩
  by_cases hlt:i < n0
  · refine .inr ⟨hlt,Pv D (i + 1),fun σ' H' p' => ⟨n0 - (i + 1),by omega,rfl,hlt,p'⟩,fun x H' y => ?_⟩
    obtain ⟨e,y⟩ := y
    subst e y
    rw [Int.zero_add]
    exact hs D i σ _ hD hlt p
  · have e:i = n0 := by omega
    subst e
    exact .inl ⟨Nat.le_refl _,hd D σ H hD p⟩
end L2
namespace L2
open PySem PySem.Spec PyProof.Rows
noncomputable abbrev Cel := Str × Int
noncomputable abbrev Pict := List (List Cel)
noncomputable def uT (c:Cel):PyData := .tuple [.str c.1,.int c.2]
noncomputable def zfL (r:List Cel):PyData := .list (r.map uT)
noncomputable def zfM (p:Pict):PyData := .list (p.map zfL)
noncomputable def okC (c:Cel):Prop := PyData.strOk c.1 = true
structure IsPic (p:Pict) (w h:Nat):Prop where
  hh:p.length = h
  ww:∀ r ∈ p,r.length = w
  ok:∀ r ∈ p,∀ c ∈ r,okC c
  w1:1 ≤ w
  w2:w ≤ 24
  h1:1 ≤ h
  h2:h ≤ 12
theorem Reps.at {K:PySem.W.Frag} {H:Hp}:∀ {ds:List PyData} {xs:List V} (i:Nat) {d:PyData},Reps K H ds xs → ds[i]? = some d → ∃ x,xs[i]? = some x ∧ Rep K H d x
  | [],_,i,d,_,e => by cases e
  | d0 :: ds,_,i,d,h,e => by
    obtain ⟨y,r,rfl,h1,h2⟩ := h
    cases i with
    | zero =>
      cases e
      exact ⟨y,rfl,h1⟩
    | succ i =>
      obtain ⟨x,e',h'⟩ := h2.at i (d := d) (by simpa using e)
      exact ⟨x,by simpa using e',h'⟩
section
variable {K:PySem.W.Frag} {H:Hp}
end
noncomputable def uU (H:Hp):List (Int × Int) → List V → Prop
  | [],xs => xs = []
  | p :: l,xs => ∃ t r,xs = .ref t :: r ∧ H t = some (.tup [.int p.1,.int p.2]) ∧ uU H l r
theorem uU.same {H H':Hp} (e:∀ b xs,H b = some (.tup xs) → H' b = some (.tup xs)):∀ {l:List (Int × Int)} {xs:List V},uU H l xs → uU H' l xs
  | [],_,h => h
  | p :: l,_,h => by
    obtain ⟨t,r,e1,h1,h2⟩ := h
    exact ⟨t,r,e1,e _ _ h1,h2.same e⟩
theorem uU.length {H:Hp}:∀ {l:List (Int × Int)} {xs:List V},uU H l xs → xs.length = l.length
  | [],_,h => by rw [show _ = [] from h]; rfl
  | p :: l,_,h => by
    obtain ⟨t,r,rfl,_,h2⟩ := h
    rw [List.length_cons,List.length_cons,h2.length]
theorem uU.snoc {H:Hp} {p:Int × Int} {t:Addr} (ht:H t = some (.tup [.int p.1,.int p.2])):∀ {l:List (Int × Int)} {xs:List V},uU H l xs → uU H (l ++ [p]) (xs ++ [.ref t])
  | [],_,h => by
    rw [show _ = [] from h]
    exact ⟨t,[],rfl,ht,rfl⟩
  | q :: l,_,h => by
    obtain ⟨u,r,rfl,h1,h2⟩ := h
    exact ⟨u,r ++ [.ref t],rfl,h1,h2.snoc ht⟩
theorem uU.at {H:Hp}:∀ {l:List (Int × Int)} {xs:List V} (i:Nat) {x:V},uU H l xs → xs[i]? = some x → ∃ (t:Addr) (p:Int × Int),x = .ref t ∧ H t = some (.tup [.int p.1,.int p.2])
  | [],_,i,x,h,e => by
    rw [show _ = [] from h] at e
    cases e
  | p :: l,_,i,x,h,e => by
    obtain ⟨t,r,rfl,h1,h2⟩ := h
    cases i with
    | zero =>
      cases e
      exact ⟨t,p,rfl,h1⟩
    | succ i => exact h2.at i (by simpa using e)
noncomputable def j6 (p:Pict) (i j:Nat):Cel := (p.getD i []).getD j (Str.ofString "",0)
theorem KJ {p:Pict} {w h:Nat} (ip:IsPic p w h) {i j:Nat} (hi:i < h) (hj:j < w):∃ r,p[i]? = some r ∧ r.length = w ∧ r[j]? = some (j6 p i j) ∧ okC (j6 p i j) := by
  have hl:i < p.length := by rw [ip.hh]; exact hi
  have hm:p[i] ∈ p := List.getElem_mem hl
  have hw := ip.ww _ hm
  have hj':j < p[i].length := by rw [hw]; exact hj
  have e:j6 p i j = p[i][j] := by
    unfold j6
    have e1:p.getD i [] = p[i] := by rw [List.getD_eq_getElem?_getD,List.getElem?_eq_getElem hl,Option.getD_some]
    rw [e1,List.getD_eq_getElem?_getD,List.getElem?_eq_getElem hj',Option.getD_some]
  refine ⟨p[i],List.getElem?_eq_getElem hl,hw,?_,?_⟩
  · rw [e,List.getElem?_eq_getElem hj']
  · rw [e]
    exact ip.ok _ hm _ (List.getElem_mem hj')
end L2
namespace L2
open PySem PySem.Spec PyProof.Rows
noncomputable def Bld (K:PySem.W.Frag) (H0 H:Hp) (av:List Addr) (r:Addr) (ds:List PyData):Prop := ∃ G vs,Same H0 G ∧ Same G H ∧ (∀ b ∈ r :: av,G b = none) ∧ H r = some (.lst vs) ∧ Reps K G ds vs
section
variable {K:PySem.W.Frag} {H0 H H1:Hp} {av:List Addr} {r t l:Addr} {ds es:List PyData} {d:PyData}
theorem Bld.new (hs:Same H0 H) (ha:∀ b ∈ av,H0 b = none) (hr:H r = none):Bld K H0 (upd H r (.lst [])) av r [] := by
  refine ⟨H0,[],fun _ _ e => e,uS hs (hs.free hr),fun b hb => ?_,zn,rfl⟩
  rcases List.mem_cons.mp hb with z | z
  · rw [z]
    exact hs.free hr
  · exact ha b z
theorem Bld.same (b:Bld K H0 H av r ds) (hs:Same H H1):Bld K H0 H1 av r ds := by
  obtain ⟨G,vs,h1,h2,h3,h4,h5⟩ := b
  exact ⟨G,vs,h1,h2.trans hs,h3,hs _ _ h4,h5⟩
theorem Bld.base (b:Bld K H0 H av r ds):Same H0 H := by
  obtain ⟨G,vs,h1,h2,_⟩ := b
  exact h1.trans h2
theorem Bld.lst (b:Bld K H0 H av r ds):∃ vs,H r = some (.lst vs) ∧ vs.length = ds.length := by
  obtain ⟨G,vs,h1,h2,h3,h4,h5⟩ := b
  exact ⟨vs,h4,h5.length.symm⟩
theorem Bld.tup {cs vs:List V} (b:Bld K H0 H av r ds) (hv:H r = some (.lst vs)) (ha:∀ c ∈ av,∃ o,H c = some o) (ht:H t = none) (hc:∀ G,Reps K G es cs) :
    Bld K H0 (upd (upd H t (.tup cs)) r (.lst (vs ++ [.ref t]))) av r (ds ++ [.tuple es]) := by
  obtain ⟨G,ws,h1,h2,h3,h4,h5⟩ := b
  rw [hv] at h4
  cases h4
  have nr:t ≠ r := fun z => by rw [z,hv] at ht; cases ht
  have gt:G t = none := h2.free ht
  refine ⟨upd G t (.tup cs),_,h1.trans (xS gt),fun c o q => ?_,fun c hc' => ?_,zn,?_⟩
  · by_cases z:c = t
    · rw [z] at q ⊢
      rw [zn] at q
      rw [zi nr,zn]
      exact q
    · rw [zi z] at q
      have nc:c ≠ r := fun y => by rw [y,h3 r List.mem_cons_self] at q; cases q
      rw [zi nc,zi z]
      exact h2 _ _ q
  · have nc:c ≠ t := fun y => by
      rcases List.mem_cons.mp hc' with z | z
      · exact nr (y.symm.trans z)
      · obtain ⟨o,q⟩ := ha c z
        rw [y,ht] at q
        cases q
    rw [zi nc]
    exact h3 c hc'
  · exact (Reps.same (xS gt) _ _ h5).snoc ⟨t,cs,rfl,SqT.of zn,hc _⟩
theorem Bld.row {vs:List V} {G:Hp} (h1:Same H0 G) (h3:∀ b ∈ r :: av,G b = none) (h5:Reps K G ds vs) (b:Bld K G H (r :: av) l es) (hv:H r = some (.lst vs)) (nl:∀ c ∈ r :: av,c ≠ l) :
    Bld K H0 (upd H r (.lst (vs ++ [.ref l]))) av r (ds ++ [.list es]) := by
  obtain ⟨G2,us,k1,k2,k3,k4,k5⟩ := b
  have gl:G2 l = none := k3 l List.mem_cons_self
  have nr:l ≠ r := (nl r List.mem_cons_self).symm
  have sn:Same G2 (upd G2 l (.lst us)) := xS gl
  refine ⟨upd G2 l (.lst us),_,(h1.trans k1).trans sn,fun c o q => ?_,fun c hc => ?_,zn,?_⟩
  · by_cases z:c = l
    · rw [z] at q ⊢
      rw [zn] at q
      rw [zi nr,k4]
      exact q
    · rw [zi z] at q
      have nc:c ≠ r := fun y => by rw [y,k3 r (List.mem_cons_of_mem _ List.mem_cons_self)] at q; cases q
      rw [zi nc]
      exact k2 _ _ q
  · rw [zi (nl c hc)]
    exact k3 c (List.mem_cons_of_mem _ hc)
  · exact (Reps.same (k1.trans sn) _ _ h5).snoc ⟨l,us,rfl,SqL.of zn,Reps.same sn _ _ k5⟩
theorem Bld.done (b:Bld K H0 H av r ds):Rep K H (.list ds) (.ref r) := by
  obtain ⟨G,vs,h1,h2,h3,h4,h5⟩ := b
  exact ⟨r,vs,rfl,SqL.of h4,Reps.same h2 _ _ h5⟩
end
end L2
namespace L2
open PySem PySem.Spec PyProof.Rows
noncomputable def xX (K:PySem.W.Frag) (H0 H:Hp) (r:Addr) (p:Pict):Prop := ∃ (G:Hp) (as:List Addr),Same H0 G ∧ Same G H ∧ (∀ a ∈ r :: as,G a = none) ∧ (r :: as).Nodup ∧ H r = some (.lst (as.map V.ref)) ∧ as.length = p.length ∧
  ∀ (i:Nat) row,p[i]? = some row → ∃ a us,as[i]? = some a ∧ H a = some (.lst us) ∧ Reps K G (row.map uT) us
section
variable {K:PySem.W.Frag} {H0 H H1:Hp} {r b t:Addr} {p:Pict} {row:List Cel}
theorem xX.new (hs:Same H0 H) (hr:H r = none):xX K H0 (upd H r (.lst [])) r [] := by
  refine ⟨H0,[],fun _ _ e => e,uS hs (hs.free hr),fun b hb => ?_,by simp,zn,rfl,fun i row q => by simp at q⟩
  rw [List.mem_singleton.mp hb]
  exact hs.free hr
theorem xX.same (g:xX K H0 H r p) (hs:Same H H1):xX K H0 H1 r p := by
  obtain ⟨G,as,h1,h2,h3,h4,h5,h6,h7⟩ := g
  refine ⟨G,as,h1,h2.trans hs,h3,h4,hs _ _ h5,h6,fun i row q => ?_⟩
  obtain ⟨a,us,k1,k2,k3⟩ := h7 i row q
  exact ⟨a,us,k1,hs _ _ k2,k3⟩
theorem xX.base (g:xX K H0 H r p):Same H0 H := by
  obtain ⟨G,as,h1,h2,_⟩ := g
  exact h1.trans h2
theorem xX.lst (g:xX K H0 H r p):∃ vs,H r = some (.lst vs) ∧ vs.length = p.length := by
  obtain ⟨G,as,h1,h2,h3,h4,h5,h6,h7⟩ := g
  exact ⟨_,h5,by rw [List.length_map]; exact h6⟩
theorem xX.put {ys vs:List V} {H2:Hp} (g:xX K H0 H r p) (hv:H r = some (.lst vs)) (hy:Reps K H0 (row.map uT) ys) (hb:H b = none) (hs:Same H H2) (hb2:H2 b = some (.lst ys)):xX K H0 (upd H2 r (.lst (vs ++ [.ref b]))) r (p ++ [row]) := by
  obtain ⟨G,as,h1,h2,h3,h4,h5,h6,h7⟩ := g
  rw [hv] at h5
  have h5:vs = as.map V.ref := by cases h5; rfl
  subst h5
  have nb:∀ (c:Addr) (o:HO),H c = some o → c ≠ b := fun c o q z => by
    rw [z,hb] at q
    cases q
  have inH:∀ c ∈ as,∃ o,H c = some o := fun c hc => by
    obtain ⟨i,hi,e⟩ := List.getElem_of_mem hc
    obtain ⟨a,us,k1,k2,_⟩ := h7 i _ (List.getElem?_eq_getElem (h6 ▸ hi))
    rw [List.getElem?_eq_getElem hi] at k1
    cases k1
    exact ⟨_,e ▸ k2⟩
  have nr := nb r _ hv
  have nin:b ∉ as := fun z => by
    obtain ⟨o,q⟩ := inH b z
    exact nb b o q rfl
  obtain ⟨n1,n2⟩ := List.nodup_cons.mp h4
  refine ⟨G,as ++ [b],h1,fun c o q => ?_,fun c hc => ?_,?_,by rw [List.map_append]; exact zn,by simp [h6],fun i y q => ?_⟩
  · have c1:c ≠ r := fun z => by rw [z,h3 r List.mem_cons_self] at q; cases q
    rw [zi c1]
    exact hs _ _ (h2 _ _ q)
  · rcases List.mem_cons.mp hc with z | z
    · rw [z]
      exact h3 r List.mem_cons_self
    · rcases List.mem_append.mp z with z | z
      · exact h3 c (List.mem_cons_of_mem _ z)
      · rw [List.mem_singleton.mp z]
        exact h2.free hb
  · rw [List.nodup_cons]
    refine ⟨fun z => ?_,List.nodup_append.mpr ⟨n2,by simp,fun x hx y hy z => ?_⟩⟩
    · rcases List.mem_append.mp z with z | z
      · exact n1 z
      · exact nr (List.mem_singleton.mp z)
    · rw [z,List.mem_singleton.mp hy] at hx
      exact nin hx
  · by_cases hi:i < p.length
    · rw [List.getElem?_append_left hi] at q
      obtain ⟨a,us,k1,k2,k3⟩ := h7 i y q
      have ar:a ≠ r := fun z => n1 (z ▸ List.mem_of_getElem? k1)
      exact ⟨a,us,by rw [List.getElem?_append_left (h6 ▸ hi)]; exact k1,by rw [zi ar]; exact hs _ _ k2,k3⟩
    · have e:i = p.length := by
        have := (List.getElem?_eq_some_iff.mp q).1
        simp at this
        omega
      subst e
      simp only [List.getElem?_concat_length,Option.some.injEq] at q
      subst q
      exact ⟨b,ys,by rw [← h6]; simp,by rw [zi nr.symm]; exact hb2,Reps.same h1 _ _ hy⟩
theorem xX.push {ys vs:List V} (g:xX K H0 H r p) (hv:H r = some (.lst vs)) (hy:Reps K H0 (row.map uT) ys) (hb:H b = none):xX K H0 (upd (upd H b (.lst ys)) r (.lst (vs ++ [.ref b]))) r (p ++ [row]) := g.put hv hy hb (xS hb) zn
theorem Reps.set {G:Hp}:∀ {ds:List PyData} {xs:List V} (j:Nat) {d:PyData} {x:V},Reps K G ds xs → Rep K G d x → Reps K G (ds.set j d) (xs.set j x)
  | [],_,j,d,x,h,_ => by
    rw [show _ = [] from h]
    rfl
  | d0 :: ds,_,j,d,x,h,h' => by
    obtain ⟨y,q,rfl,h1,h2⟩ := h
    cases j with
    | zero => exact ⟨x,q,rfl,h',h2⟩
    | succ j => exact ⟨y,_,rfl,h1,h2.set j h'⟩
theorem zb1 {c:Cel} {u:V} (h:Rep K H (uT c) u):∃ t,u = .ref t ∧ SqT K H t [.str c.1,.int c.2] := by
  obtain ⟨t,xs,rfl,h1,x1,q1,rfl,e1,x2,q2,rfl,e2,e3⟩ := h
  cases e1
  cases e2
  cases e3
  exact ⟨t,rfl,h1⟩
theorem xX.cell {i j:Nat} {c:Cel} (g:xX K H0 H r p) (hi:p[i]? = some row) (hj:row[j]? = some c):∃ vs a us t,H r = some (.lst vs) ∧ atI vs (i:Int) = some (.ref a) ∧ H a = some (.lst us) ∧ us.length = row.length ∧ atI us (j:Int) = some (.ref t) ∧ SqT K H t [.str c.1,.int c.2] ∧
    ∀ H2 t2 z n,Same H H2 → H2 t2 = none → xX K H0 (upd (upd H2 t2 (.tup [.str z,.int n])) a (.lst (us.set j (.ref t2)))) r (p.set i (row.set j (z,n))) := by
  obtain ⟨G,as,h1,h2,h3,h4,h5,h6,h7⟩ := g
  obtain ⟨a,us,k1,k2,k3⟩ := h7 i row hi
  obtain ⟨u,hu,ru⟩ := k3.at j (d := uT c) (by rw [List.getElem?_map,hj]; rfl)
  obtain ⟨t,rfl,ht⟩ := zb1 (Rep.same h2 _ _ ru)
  obtain ⟨n1,n2⟩ := List.nodup_cons.mp h4
  have am:a ∈ as := List.mem_of_getElem? k1
  have ar:a ≠ r := fun z => n1 (z ▸ am)
  refine ⟨_,a,us,t,h5,Yn (by rw [List.getElem?_map,k1]; rfl),k2,by rw [← k3.length,List.length_map],Yn hu,ht,fun H2 t2 z n hs ht2 => ?_⟩
  have nt:∀ (b:Addr) (o:HO),H2 b = some o → b ≠ t2 := fun b o q y => by
    rw [y,ht2] at q
    cases q
  have gt:G t2 = none := (h2.trans hs).free ht2
  have sn:Same G (upd G t2 (.tup [.str z,.int n])) := xS gt
  refine ⟨upd G t2 (.tup [.str z,.int n]),as,h1.trans sn,fun b o q => ?_,fun b hb => ?_,h4,?_,by rw [List.length_set]; exact h6,fun i' y q => ?_⟩
  · have na:b ≠ a := fun y => by
      rw [y] at q
      by_cases w:a = t2
      · exact nt a _ (hs _ _ k2) w
      · rw [zi w,h3 a (List.mem_cons_of_mem _ am)] at q
        cases q
    rw [zi na]
    by_cases w:b = t2
    · rw [w] at q ⊢
      rw [zn] at q ⊢
      exact q
    · rw [zi w] at q ⊢
      exact hs _ _ (h2 _ _ q)
  · have nb:b ≠ t2 := by
      rcases List.mem_cons.mp hb with y | y
      · rw [y]
        exact nt r _ (hs _ _ h5)
      · obtain ⟨k,hk,e⟩ := List.getElem_of_mem y
        obtain ⟨a',us',m1,m2,_⟩ := h7 k _ (List.getElem?_eq_getElem (h6 ▸ hk))
        rw [List.getElem?_eq_getElem hk] at m1
        cases m1
        rw [← e]
        exact nt _ _ (hs _ _ m2)
    rw [zi nb]
    exact h3 b hb
  · rw [zi ar.symm,zi (nt r _ (hs _ _ h5))]
    exact hs _ _ h5
  · by_cases e:i' = i
    · subst e
      have hl:i' < p.length := (List.getElem?_eq_some_iff.mp hi).1
      rw [List.getElem?_set_self hl] at q
      cases q
      refine ⟨a,_,k1,zn,?_⟩
      rw [List.map_set]
      exact (Reps.same sn _ _ k3).set j ⟨t2,_,rfl,SqT.of zn,.str z,_,rfl,rfl,.int n,[],rfl,rfl,rfl⟩
    · rw [List.getElem?_set_ne (Ne.symm e)] at q
      obtain ⟨a',us',m1,m2,m3⟩ := h7 i' y q
      have na:a' ≠ a := fun w => by
        rw [w] at m1
        have l1 := (List.getElem?_eq_some_iff.mp m1)
        have l2 := (List.getElem?_eq_some_iff.mp k1)
        exact e ((List.getElem_inj n2).mp (l1.2.trans l2.2.symm))
      exact ⟨a',us',m1,by rw [zi na,zi (nt a' _ (hs _ _ m2))]; exact hs _ _ m2,Reps.same sn _ _ m3⟩
theorem xX.done (g:xX K H0 H r p):Rep K H (zfM p) (.ref r) := by
  obtain ⟨G,as,h1,h2,h3,h4,h5,h6,h7⟩ := g
  refine ⟨r,_,rfl,SqL.of h5,?_⟩
  clear h5 h4 h3
  induction p generalizing as with
  | nil =>
    cases as with
    | nil => rfl
    | cons _ _ => cases h6
  | cons y p ih =>
    cases as with
    | nil => cases h6
    | cons a as =>
      obtain ⟨a',us,k1,k2,k3⟩ := h7 0 y rfl
      cases k1
      exact ⟨.ref a,as.map V.ref,rfl,⟨a,us,rfl,SqL.of k2,Reps.same h2 _ _ k3⟩,ih as (by simpa using h6) fun i z q => h7 (i + 1) z (by simpa using q)⟩
end
end L2
namespace L2
open PySem PySem.Spec PyProof.Rows
noncomputable def rLo (K:PySem.W.Frag):List V → Hp → VK → Prop := fun xs H Q => ∃ p ys,xs = [.ref p] ∧ (SqL K H p ys ∨ SqT K H p ys) ∧ ∀ l:Addr,H l = none → Q (.ref l) (upd H l (.lst ys))
section
variable {X:Cx} {K:PySem.W.Frag}
theorem zeS (h:X.K = K):y9 X (.type "list") (rLo K) := by
  subst h
  exact XN
theorem zdF (h:X.K = K):SlR X (Ky K) := by
  subst h
  exact zbY
theorem vH (h:X.K = K):IxR X (Qc K) := by
  subst h
  exact zbX
end
end L2
namespace L2
open PySem PySem.Spec PyProof.Rows
noncomputable def zdG (K:PySem.W.Frag):R2 := fun x y H Q => ∃ l b xs zs,x = .ref l ∧ y = .ref b ∧ SqL K H l xs ∧ SqL K H b zs ∧ xs.length + zs.length ≤ sizeLine ∧ ∀ p,H p = none → Q (.ref p) (upd H p (.lst (xs ++ zs)))
theorem Jx {X:Cx} {K:PySem.W.Frag} (hK:X.K = K):OpR X (binaryOp .Add) (zdG K) := by
  subst hK
  intro pins s σ H x y v u Q I rx ry h
  obtain ⟨l,b,xs,zs,rfl,rfl,hH,hB,hz,q⟩ := h
  cases rx
  cases ry
  obtain ⟨its,r,⟨o1,n1,e1,c1,d1,m1⟩,z1⟩ := I.list hH
  obtain ⟨ita,r2,⟨o2,n2,e2,c2,d2,m2⟩,z2⟩ := I.list hB
  obtain ⟨g1,g2,g3,g4⟩ := o1
  obtain ⟨f1,f2,f3,f4⟩ := o2
  simp only at c1 d1 m1 c2 d2 m2
  subst c1 d1 m1 c2 d2 m2
  have hs:its.length + ita.length ≤ sizeLine := by
    rw [← r.length,← r2.length]
    exact hz
  have ea:its.toArray ++ ita.toArray = (its ++ ita).toArray := by simp
  refine concat_meets ⟨_,e1,rfl⟩ ⟨_,e2,rfl⟩ noFill_list_add seq_list_add F.slot_list_add F.entry_list_add (F.args_list_add_2 _ _) (list_addW l b its.toArray ita.toArray n1 n2 none none g4 f4 (by simpa using hs)) ⟨e1,e2,?_⟩
  rw [ea]
  exact ⟨.ref _,_,I.lnew (t' := s.toks) (r.append r2) (by rw [List.length_append]; omega),rfl,q _ I.fresh⟩
theorem Reps.drop {K:PySem.W.Frag} {H:Hp}:∀ {ds:List PyData} {xs:List V} (k:Nat),Reps K H ds xs → Reps K H (ds.drop k) (xs.drop k)
  | [],_,k,h => by
    rw [show _ = [] from h]
    simp only [List.drop_nil]
    rfl
  | d :: ds,_,k,h => by
    obtain ⟨y,q,rfl,h1,h2⟩ := h
    cases k with
    | zero => exact ⟨y,q,rfl,h1,h2⟩
    | succ k => exact h2.drop k
theorem Reps.take {K:PySem.W.Frag} {H:Hp}:∀ {ds:List PyData} {xs:List V} (k:Nat),Reps K H ds xs → Reps K H (ds.take k) (xs.take k)
  | [],_,k,h => by
    rw [show _ = [] from h]
    simp only [List.take_nil]
    rfl
  | d :: ds,_,k,h => by
    obtain ⟨y,q,rfl,h1,h2⟩ := h
    cases k with
    | zero => rfl
    | succ k => exact ⟨y,_,rfl,h1,h2.take k⟩
theorem Reps.append {K:PySem.W.Frag} {H:Hp}:∀ {ds es:List PyData} {xs ys:List V},Reps K H ds xs → Reps K H es ys → Reps K H (ds ++ es) (xs ++ ys)
  | [],_,_,_,h,h' => by
    rw [show _ = [] from h]
    exact h'
  | d :: ds,_,_,_,h,h' => by
    obtain ⟨y,q,rfl,h1,h2⟩ := h
    exact ⟨y,_,rfl,h1,h2.append h'⟩
theorem IsPic.more {p:Pict} {w h:Nat} (ip:IsPic p w h) (h2:h < 12):IsPic (p ++ p.take 1) w (h + 1) := by
  have hm:∀ r,r ∈ p ++ p.take 1 → r ∈ p := fun r hr => (List.mem_append.mp hr).elim id List.mem_of_mem_take
  have := ip.h1
  exact ⟨by rw [List.length_append,List.length_take,ip.hh]; omega,fun r hr => ip.ww r (hm r hr),fun r hr => ip.ok r (hm r hr),ip.w1,ip.w2,by omega,by omega⟩
theorem IsPic.rows {p:Pict} {w h w':Nat} (g:List Cel → List Cel) (ip:IsPic p w h) (hg:∀ r ∈ p,(g r).length = w') (hm:∀ r c,c ∈ g r → c ∈ r) (h1:1 ≤ w') (h2:w' ≤ 24):IsPic (p.map g) w' h := by
  refine ⟨by rw [List.length_map,ip.hh],fun r hr => ?_,fun r hr c hc => ?_,h1,h2,ip.h1,ip.h2⟩
  · obtain ⟨y,hy,rfl⟩ := List.mem_map.mp hr
    exact hg y hy
  · obtain ⟨y,hy,rfl⟩ := List.mem_map.mp hr
    exact ip.ok y hy c (hm y c hc)
noncomputable def za2 (p:Pict) (h w:Nat):Pict := (List.range w).map fun c => (List.range h).map fun i => j6 p i c
theorem IsPic.turn {p:Pict} {w h:Nat} (ip:IsPic p w h) (hw:w ≤ 12):IsPic (za2 p h w) h w := by
  refine ⟨by simp [za2],fun r hr => ?_,fun r hr c hc => ?_,ip.h1,by have := ip.h2; omega,ip.w1,hw⟩
  · obtain ⟨y,_,rfl⟩ := List.mem_map.mp hr
    simp
  · obtain ⟨y,hy,rfl⟩ := List.mem_map.mp hr
    obtain ⟨i,hi,rfl⟩ := List.mem_map.mp hc
    obtain ⟨_,_,_,_,ok⟩ := KJ ip (List.mem_range.mp hi) (List.mem_range.mp hy)
    exact ok
end L2
namespace L2
open PySem PySem.Spec PyProof.Rows
noncomputable def Fly (h:Heap) (e C:Addr) (fp:List Addr):Prop := ∃ oe vs,h.get? e = some oe ∧ (oe.cls = .ref C ∧ oe.dict = none) ∧ oe.data = .fields vs ∧ 1 < vs.size ∧
  ((vs[1]? = some .none ∧ fp = [e]) ∨ ∃ T oT ts,vs[1]? = some (.ref T) ∧ T ≠ e ∧ h.get? T = some oT ∧ oT.data = .fields ts ∧ ts[3]? = some .none ∧ fp = [e,T])
theorem Fly.mem {h:Heap} {e C:Addr} {fp:List Addr} (F:Fly h e C fp):∀ b ∈ fp,∃ o vs,h.get? b = some o ∧ o.data = .fields vs := by
  obtain ⟨oe,vs,he,_,hd,_,⟨_,rfl⟩ | ⟨T,oT,ts,_,_,hT,hdT,_,rfl⟩⟩ := F
  · intro b hb
    cases List.mem_singleton.mp hb
    exact ⟨oe,vs,he,hd⟩
  · intro b hb
    rcases List.mem_cons.mp hb with rfl | hb
    · exact ⟨oe,vs,he,hd⟩
    · cases List.mem_singleton.mp hb
      exact ⟨oT,ts,hT,hdT⟩
theorem Fly.self {h:Heap} {e C:Addr} {fp:List Addr} (F:Fly h e C fp):e ∈ fp := by
  obtain ⟨_,_,_,_,_,_,⟨_,rfl⟩ | ⟨_,_,_,_,_,_,_,_,rfl⟩⟩ := F <;> exact List.mem_cons_self
theorem Fly.keep {h h':Heap} {e C:Addr} {fp:List Addr} (F:Fly h e C fp) (k:∀ b ∈ fp,∀ o,h.get? b = some o → h'.get? b = some o):Fly h' e C fp := by
  have hs := F.self
  obtain ⟨oe,vs,he,hc,hd,hz,h1 | ⟨T,oT,ts,h1,h2,hT,hdT,h3,rfl⟩⟩ := F
  · exact ⟨oe,vs,k _ hs _ he,hc,hd,hz,.inl h1⟩
  · exact ⟨oe,vs,k _ hs _ he,hc,hd,hz,.inr ⟨T,oT,ts,h1,h2,k _ (by simp) _ hT,hdT,h3,rfl⟩⟩
section
variable {M:Model} {A:Around} {E:Value → Shared → Prop} {s:Shared}
structure Noted (fs fp:List Addr) (h h':Heap):Prop where
  keep:∀ b o,h.get? b = some o → b ∉ fp → b ∉ fs → h'.get? b = some o
  slot:∀ b o,h.get? b = some o → b ∉ fp → ∃ sl,h'.get? b = some { o with slots := sl }
  there:∀ b o,h.get? b = some o → ∃ o',h'.get? b = some o'
theorem Noted.size {fs fp:List Addr} {h h':Heap} (n:Noted fs fp h h') (hp:h'.objs.size < h.objs.size → False):h.objs.size ≤ h'.objs.size := Nat.not_lt.mp hp
end
noncomputable def CX1 (P:Program) (w:World):CXT := fun outer H s E ev s' => ∃ e C fp H',ev = .ref e ∧ Fly s'.heap e C fp ∧ (∀ b ∈ fp,s.heap.get? b = none ∧ H' b = none) ∧ s'.os = s.os ∧ AllBare s'.gens ∧ Un (frs outer) [] H H' s.heap s'.heap ∧ HOk P w H' s'.heap ∧ E (.ref C) none H'
noncomputable def FpX (X:Cx) (pins:List (Addr × Obj)) (H:Hp) (b:Addr):Prop :=
  H b = none ∧ b ≠ X.env.locals ∧ b ∉ X.fs ∧ (b ∈ X.ex ∨ X.s₀.heap.get? b = none) ∧ (∀ x c,X.env.cells.lookup x = some c → c ≠ b) ∧ ∀ p ∈ X.pn ++ pins,p.1 ≠ b
theorem Inv.fpX {X:Cx} {pins:List (Addr × Obj)} {σ:St} {H H':Hp} {s:Shared} {b:Addr} (I:Inv X pins σ H s) (hb:s.heap.get? b = none) (hn:H' b = none):FpX X pins H' b := by
  have no:∀ c o,s.heap.get? c = some o → c ≠ b := fun c o q z => by
    rw [z,hb] at q
    cases q
  refine ⟨hn,fun z => ?_,fun z => ?_,?_,fun x c q => ?_,fun p hp => no _ _ (I.pin p hp).1⟩
  · obtain ⟨m,⟨o,_,_,ho,_⟩,_⟩ := I.loc
    exact no _ _ ho z.symm
  · obtain ⟨_,o,ho,_⟩ := I.funs.mem z
    exact no _ _ ho rfl
  · by_cases hx:b ∈ X.ex
    · exact .inl hx
    · refine .inr ?_
      cases q:X.s₀.heap.get? b with
      | none => rfl
      | some o =>
        obtain ⟨o',q'⟩ := I.base.there b o q hx
        exact absurd rfl (no _ _ q')
  · obtain ⟨v,o,ho,_⟩ := I.cell x c q
    exact no _ _ ho
noncomputable def Up (X:Cx) (W:XK) (ev:Value) (s':Shared):Prop := ∃ pins σ H e C fp,ev = .ref e ∧ Inv X pins σ H s' ∧ Fly s'.heap e C fp ∧ (∀ b ∈ fp,FpX X pins H b) ∧ W (.ref C) none H
noncomputable def za3 (X:Cx) (W:XK):Prop := ∀ ev s',Up X W ev s' → X.xe ev s'
theorem za3.passes {X:Cx} {W:XK} (L:za3 X W):uQ (CX1 X.prog X.w) X W := by
  rintro pins σ H s ev s' I ⟨e,C,fp,H',rfl,F,hf,os,bare,un,hok,hw⟩
  have I':Inv X pins σ H' s' := I.call' (ch := []) os un hok bare fun b z => absurd z (by simp)
  exact L _ _ ⟨pins,σ,H',e,C,fp,rfl,I',F,fun b hb => I.fpX (H' := H') (hf b hb).1 (hf b hb).2,hw⟩
end L2
namespace L2
open PySem PySem.W PySem.Spec PySem.Calls PyProof.Rows
section
variable {prog:Program} {w:World} {A:Around} {E:Value → Shared → Prop} {s:Shared} {K:PySem.W.Frag} {e C:Addr} {oe:Obj}
end
end L2
namespace L2
open PySem PySem.W PySem.Spec PySem.Calls PyProof.Rows
structure XMake (K:PySem.W.Frag) (C:Addr):Prop where
  ex:∃ B nid iid bmB,ExcBaseFacts B nid iid bmB ∧ excIn K C bmB nid = true
theorem XMake.obj {K:PySem.W.Frag} {C:Addr} {h:Heap} (m:XMake K C) (X:K.In h):∃ B nid iid bmB,ExcBaseFacts B nid iid bmB ∧ ∃ bm ns nm qn bs hd sn sub ab col dd k0 k1 k2 k3 k5 mN,
    h.get? C = some (excClassObj nm qn C ns bs bm hd sn sub ab col dd k0 k1 k2 k3 k5 nid) ∧ h.Ns ns mN ∧ mN "__init__" = none ∧ OwnTail h bmB bm := by
  obtain ⟨B,nid,iid,bmB,F,z⟩ := m.ex
  refine ⟨B,nid,iid,bmB,F,?_⟩
  unfold excIn at z
  split at z
  · rename_i d0 c0 s0 lk0
    split at z
    · rename_i A0 tl j0 j1 j2 j3 nm0 j5 hm0 hs0
      rw [Bool.and_eq_true,Bool.and_eq_true,Bool.and_eq_true,Bool.and_eq_true,Bool.and_eq_true] at z
      obtain ⟨⟨⟨⟨⟨z1,z2⟩,z3⟩,z4⟩,z5⟩,z6⟩ := z
      rw [beq_iff_eq.mp z1] at hm0
      rw [beq_iff_eq.mp z2] at hs0
      obtain ⟨n0,b0,r0,y0,q0,h0,t0,u0,a0,l0,del0⟩ := c0
      have e3:del0 = false := by simpa using z3
      have e1:r0 = .ref C :: tl := hm0
      have e2:s0 = #[j0,j1,j2,j3,some (.builtin nid),j5] := by
        cases s0
        exact congrArg Array.mk hs0
      subst e1 e2 e3
      have g1 := Heap.Ns.of_isNs (isNs_of_in X z5)
      have g2 := nsMap_none_of_in X z5 (beq_iff_eq.mp z6)
      exact ⟨tl,y0,n0,q0,b0,h0,t0,u0,a0,l0,d0,j0,j1,j2,j3,j5,_,X _ _ lk0,g1,g2,tail_of_in X z4⟩
    · cases z
  · cases z
end L2
namespace L2
open PySem PySem.W PySem.Spec PySem.Calls PyProof.Rows
noncomputable abbrev Cx.suite (X:Cx) (pins:List (Addr × Obj)) (e:Addr):Cx := { X with A := X.A.mark (some (.ref e)),calm := false,pn := X.pn ++ pins,xe := fun _ _ => False }
section
variable {X:Cx} {pins ps:List (Addr × Obj)} {σ:St} {H:Hp} {s:Shared} {Z:Value → Shared → Prop} {e:Addr}
theorem Inv.suite (I:Inv X pins σ H s) (e:Addr) (hz:(X.A.mark (some (.ref e))).frames = X.A.frames):Inv (X.suite pins e) [] σ H s :=
  ⟨⟨I.ok.mod,I.ok.kind,I.ok.glob,I.ok.blt,I.ok.above,I.ok.inj,I.ok.has,I.ok.cab,fun z => (Bool.noConfusion z),hz.trans I.ok.frames,I.ok.stk,I.ok.exf,I.ok.bs,I.ok.bsz,I.ok.noex,I.ok.exfs,I.ok.funs,I.ok.frf⟩,
    I.os,I.bare,I.base,I.loc,I.cell,I.free,I.freeC,fun p hp => I.pin p (by simpa using hp),I.hok,I.len⟩
theorem Inv.forget (I:Inv X pins σ H s):Inv X pins (List.replicate X.N.length none) H s :=
  I.weak (by rw [List.length_replicate]; exact I.len.symm) fun i v q => by
    rw [List.getElem?_replicate] at q
    split at q <;> cases q
end
end L2
namespace L2
open PySem PySem.Spec PyProof.Rows
noncomputable def zeT (X:Cx) (N:List Str) (scope:Scope) (cl:List (Str × Addr)) (y:Str) (C:Addr) (s:Shared) (H:Hp) (fp:List Addr):Cx :=
  { xh X N scope cl C s H fp with env := compEnvC scope ((y,C + 1) :: cl) C X.env,fn := fun x => x == y }
structure LcOkC (X:Cx) (N:List Str) (n:Nat) (js:List Nat) (scope:Scope) (cl:List (Str × Addr)) (y:Str):Prop where
  clos:closureFor scope X.env = pure cl
  one:∀ k,cellsFrom k scope.names cl = (y,k) :: cl
  onep:∀ h:Heap,pushCells h scope.names = h.push { cls := .type "cell",data := .cell none }
  kind:scope.kind = .function
  names:∀ y ∈ scope.names,y.2 = .local → scope.names.lookup y.1 = some .local
  cells:∀ x c,cl.lookup x = some c → X.env.cells.lookup x = some c
  has:∀ x,((relabel scope X.env).names.lookup x = some .cell ∨ (relabel scope X.env).names.lookup x = some .free) → x = y ∨ ∃ c,cl.lookup x = some c
  len:n + js.length = N.length
  free:∀ (i:Nat) (x:Str),N[n + i]? = some x → ∃ j c,js[i]? = some j ∧ X.N[j]? = some x ∧ (X.env.scope.names.lookup x = some .cell ∨ X.env.scope.names.lookup x = some .free) ∧
    ((relabel scope X.env).names.lookup x = some .cell ∨ (relabel scope X.env).names.lookup x = some .free) ∧ cl.lookup x = some c ∧ x ≠ y
theorem Zk {cl:List (Str × Addr)} {y x:Str} {k c:Addr} (h:List.lookup x ((y,k) :: cl) = some c):(x = y ∧ c = k) ∨ cl.lookup x = some c := by
  rw [List.lookup_cons] at h
  cases q:x == y with
  | true =>
    rw [q] at h
    exact .inl ⟨beq_iff_eq.mp q,(Option.some.inj h).symm⟩
  | false =>
    rw [q] at h
    exact .inr h
theorem KK {cl:List (Str × Addr)} {y x:Str} {k:Addr} (h:x ≠ y):List.lookup x ((y,k) :: cl) = cl.lookup x := by
  rw [List.lookup_cons,beq_eq_false_iff_ne.mpr h]
theorem Zl {cl:List (Str × Addr)} {y:Str} {k:Addr}:List.lookup y ((y,k) :: cl) = some k := by
  rw [List.lookup_cons,beq_self_eq_true]
section
variable {X:Cx} {pins:List (Addr × Obj)} {σ:St} {H:Hp} {s:Shared} {N:List Str} {n:Nat} {js:List Nat} {scope:Scope} {cl:List (Str × Addr)} {y:Str}
theorem LcOkC.far (L:LcOkC X N n js scope cl y) {fp:List Addr} {C b c:Addr} {x:Str} {z:Nat} (hf:∀ b ∈ fp,FpOk X pins H b) (hlt:b < z) (hb:b ∈ fp) (hC:z ≤ C) (e:List.lookup x ((y,C + 1) :: cl) = some c):c ≠ b := by
  rcases Zk e with ⟨_,q⟩ | q
  · rw [q]
    exact Nat.ne_of_gt (Nat.lt_of_lt_of_le hlt (Nat.le_succ_of_le hC))
  · exact (hf b hb).2.2.2.2.1 x c (L.cells x c q)
theorem LcOkC.low (L:LcOkC X N n js scope cl y) (I:Inv X pins σ H s) {x:Str} {c:Addr} (e:cl.lookup x = some c):c < s.heap.objs.size := by
  obtain ⟨v,o,ho,_⟩ := I.cell x c (L.cells x c e)
  exact Heap.lt_size ho
theorem LcOkC.ok (L:LcOkC X N n js scope cl y) (I:Inv X pins σ H s) {fp:List Addr} (hf:∀ b ∈ fp,FpOk X pins H b) (hlt:∀ b ∈ fp,b < s.heap.objs.size) {C:Addr} (hC:s.heap.objs.size ≤ C):(zeT X N scope cl y C s H fp).Ok where
  mod := I.ok.mod
  kind := L.kind
  glob := I.ok.glob
  blt := I.ok.blt
  above := hC
  inj := fun x x' c h1 h2 => by
    rcases Zk h1 with ⟨e1,q1⟩ | q1 <;> rcases Zk h2 with ⟨e2,q2⟩ | q2
    · rw [e1,e2]
    · exact absurd (Nat.lt_of_lt_of_le (L.low I q2) hC) (by rw [q1]; exact Nat.not_lt.mpr (Nat.le_succ C))
    · exact absurd (Nat.lt_of_lt_of_le (L.low I q1) hC) (by rw [q2]; exact Nat.not_lt.mpr (Nat.le_succ C))
    · exact I.ok.inj x x' c (L.cells x c q1) (L.cells x' c q2)
  has := fun x hx => by
    rcases L.has x hx with e | ⟨c,e⟩
    · rw [e]
      exact ⟨_,Zl⟩
    · by_cases q:x = y
      · rw [q]
        exact ⟨_,Zl⟩
      · exact ⟨c,(KK q).trans e⟩
  cab := fun x c hx e => by
    have hx:x = y := beq_iff_eq.mp hx
    rw [hx] at e
    cases (Zl.symm.trans e)
    exact Nat.le_succ_of_le hC
  hd := I.ok.hd
  frames := I.ok.frames
  stk := .inl rfl
  exf := fun b hb => ⟨Nat.ne_of_lt (Nat.lt_of_lt_of_le (hlt b hb) hC),fun x c e => L.far hf (hlt b hb) hb hC e⟩
  bs := I.bs
  bsz := Nat.le_trans I.ok.bsz I.sz
  noex := fun b o e hb => by
    rcases (hf b hb).2.2.2.1 with z | z
    · exact I.ok.noex b o e z
    · exact absurd (Nat.lt_of_lt_of_le (Heap.lt_size (I.ok.bs b o e).1) z) (Nat.lt_irrefl _)
  exfs := fun b hb hz => by
    rcases List.mem_cons.mp (I.stkSub b hz) with z | z
    · exact (hf b hb).2.1 z
    · exact (hf b hb).2.2.1 z
  funs := I.stack
  frf := I.stkFree
end
end L2
namespace L2
open PySem PySem.Spec PyProof.Rows
section
variable {κ:Type} [DecidableEq κ]
noncomputable def vM (kvs:List (κ × V)) (k:κ):Option V := (kvs.find? fun kv => decide (kv.1 = k)).map (·.2)
noncomputable def x0 (kvs:List (κ × V)) (k:κ) (v:V):List (κ × V) :=
  if (kvs.any fun kv => decide (kv.1 = k)) = true then kvs.map (fun kv => if kv.1 = k then (kv.1,v) else kv) else kvs ++ [(k,v)]
noncomputable def za4 (kvs:List (κ × V)) (k:κ):List (κ × V) := kvs.filter fun kv => decide (kv.1 ≠ k)
theorem Zm {p:κ × V} {r:List (κ × V)} {k:κ} (e:p.1 = k):vM (p :: r) k = some p.2 := by simp [vM,List.find?_cons,e]
theorem Zn {p:κ × V} {r:List (κ × V)} {k:κ} (e:¬ p.1 = k):vM (p :: r) k = vM r k := by simp [vM,List.find?_cons,e]
theorem XS (k:κ):∀ kvs:List (κ × V),(kvs.any fun kv => decide (kv.1 = k)) = (vM kvs k).isSome
  | [] => rfl
  | p :: r => by
    rw [List.any_cons]
    by_cases e:p.1 = k
    · simp only [Zm e,decide_eq_true e,Bool.true_or,Option.isSome_some]
    · rw [Zn e,decide_eq_false e,Bool.false_or]; exact XS k r
theorem qE (kvs:List (κ × V)) (k:κ) (v:V):(x0 kvs k v).length ≤ kvs.length + 1 := by
  unfold x0
  split
  · rw [List.length_map]; omega
  · rw [List.length_append,List.length_cons,List.length_nil]; omega
theorem va.isSome_eq {o:Option V} {u:Option Value} (r:va o u):o.isSome = u.isSome := by
  cases o with
  | none => cases u with
    | none => rfl
    | some _ => exact (show False from r).elim
  | some _ => cases u with
    | none => exact (show False from r).elim
    | some _ => rfl
theorem va.getD {o:Option V} {u:Option Value} {d:V} {d':Value} (r:va o u) (rd:RelV d d'):RelV (o.getD d) (u.getD d') := by
  cases o with
  | none => cases u with
    | none => exact rd
    | some _ => exact (show False from r).elim
  | some _ => cases u with
    | none => exact (show False from r).elim
    | some _ => exact r
theorem KV.val {kvs:List (κ × V)} {vs:List (κ × Value)} (r:KV kvs vs) (k:κ):va (vM kvs k) (valueAt vs k) := by
  unfold KV at r
  induction r with
  | nil => exact True.intro
  | @cons p q ps qs h t ih =>
    obtain ⟨h1,h2⟩ := h
    by_cases e:p.1 = k
    · have e':q.1 = k := h1.symm.trans e
      have b:valueAt (q :: qs) k = some q.2 := by simp [valueAt,List.find?_cons,e']
      rw [Zm e,b]; exact h2
    · have e':¬ q.1 = k := fun z => e (h1.trans z)
      have b:valueAt (q :: qs) k = valueAt qs k := by simp [valueAt,List.find?_cons,e']
      rw [Zn e,b]; exact ih
theorem KV.any {kvs:List (κ × V)} {vs:List (κ × Value)} (r:KV kvs vs) (k:κ):(kvs.any fun kv => decide (kv.1 = k)) = vs.any fun kv => decide (kv.1 = k) := by
  unfold KV at r
  induction r with
  | nil => rfl
  | cons h t ih => rw [List.any_cons,List.any_cons,ih,h.1]
theorem KV.repl {kvs:List (κ × V)} {vs:List (κ × Value)} (r:KV kvs vs) (k:κ) {y:V} {u:Value} (ry:RelV y u) :
    KV (kvs.map fun kv => if kv.1 = k then (kv.1,y) else kv) (vs.map fun kv => if kv.1 = k then (kv.1,u) else kv) := by
  unfold KV at r ⊢
  induction r with
  | nil => exact .nil
  | @cons p q ps qs h t ih =>
    rw [List.map_cons,List.map_cons]
    refine .cons ?_ ih
    obtain ⟨h1,h2⟩ := h
    by_cases e:p.1 = k
    · rw [if_pos e,if_pos (h1.symm.trans e)]; exact ⟨h1,ry⟩
    · rw [if_neg e,if_neg (fun z => e (h1.trans z))]; exact ⟨h1,h2⟩
theorem KV.put {kvs:List (κ × V)} {vs:List (κ × Value)} (r:KV kvs vs) (k:κ) {y:V} {u:Value} (ry:RelV y u):KV (x0 kvs k y) (stored vs k u) := by
  unfold x0 stored
  rw [r.any k]
  by_cases e:(vs.any fun kv => decide (kv.1 = k)) = true
  · rw [if_pos e,if_pos e]; exact r.repl k ry
  · rw [if_neg e,if_neg e]; exact Paired.snoc r ⟨rfl,ry⟩
theorem KV.drop {kvs:List (κ × V)} {vs:List (κ × Value)} (r:KV kvs vs) (k:κ):KV (za4 kvs k) (without vs k) := by
  unfold KV at r ⊢
  unfold za4 without
  induction r with
  | nil => exact .nil
  | @cons p q ps qs h t ih =>
    obtain ⟨h1,h2⟩ := h
    rw [List.filter_cons,List.filter_cons]
    by_cases e:p.1 = k
    · have a:¬ decide (p.1 ≠ k) = true := by simp [e]
      have b:¬ decide (q.1 ≠ k) = true := by simp [h1.symm.trans e]
      rw [if_neg a,if_neg b]; exact ih
    · have e':¬ q.1 = k := fun z => e (h1.trans z)
      have a:decide (p.1 ≠ k) = true := by simp [e]
      have b:decide (q.1 ≠ k) = true := by simp [e']
      rw [if_pos a,if_pos b]; exact .cons ⟨h1,h2⟩ ih
theorem KV.keys {kvs:List (κ × V)} {vs:List (κ × Value)} (r:KV kvs vs):kvs.map (·.1) = vs.map (·.1) := by
  unfold KV at r
  induction r with
  | nil => rfl
  | cons h t ih => rw [List.map_cons,List.map_cons,ih,h.1]
theorem KV.length {kvs:List (κ × V)} {vs:List (κ × Value)} (r:KV kvs vs):kvs.length = vs.length := Paired.length r
end
theorem kP {P:Program} {w:World} {k:Key} {u:Value} (r:RelV (kV k) u):(yP P w).is k u = true := by
  cases k with
  | inl i => obtain ⟨t,e⟩ := (show ∃ t,u = Value.int i t from r); subst e; exact V1 P w i t
  | inr x => obtain ⟨t,e⟩ := (show ∃ t,u = Value.str x t from r); subst e; exact V2 P w x t
theorem YV {P:Program} {w:World}:∀ {ks:List Key} {us:List Value},Vals (ks.map kV) us → ItemsAre (yP P w) ks us
  | [],_,r => by rw [List.map_nil] at r; cases r; exact .nil
  | k :: ks,_,r => by
    rw [List.map_cons] at r
    cases r with
    | cons h t => exact .cons (kP h) (YV t)
noncomputable abbrev KT (H:Hp):List (List Key × V) → List (List Key × Addr × Value) → Prop := Paired fun p q => p.1 = q.1 ∧ H q.2.1 = some (.tup (p.1.map kV)) ∧ RelV p.2 q.2.2
theorem KT.val {H:Hp} {kvs:List (List Key × V)} {xs:List (List Key × Addr × Value)} (r:KT H kvs xs) (k:List Key):va (vM kvs k) ((atKey xs k).map (·.2)) := by
  induction r with
  | nil => exact True.intro
  | @cons p q ps qs h t ih =>
    obtain ⟨h1,_,h2⟩ := h
    by_cases e:p.1 = k
    · have e':q.1 = k := h1.symm.trans e
      have b:atKey (q :: qs) k = some q.2 := by simp [atKey,List.find?_cons,e']
      rw [Zm e,b]; exact h2
    · have e':¬ q.1 = k := fun z => e (h1.trans z)
      have b:atKey (q :: qs) k = atKey qs k := by simp [atKey,List.find?_cons,e']
      rw [Zn e,b]; exact ih
theorem KT.repl {H:Hp} {kvs:List (List Key × V)} {xs:List (List Key × Addr × Value)} (r:KT H kvs xs) (k:List Key) {y:V} {u:Value} (ry:RelV y u) :
    KT H (kvs.map fun kv => if kv.1 = k then (kv.1,y) else kv) (xs.map (putAt k u)) := by
  induction r with
  | nil => exact .nil
  | @cons p q ps qs h t ih =>
    rw [List.map_cons,List.map_cons]
    refine .cons ?_ ih
    obtain ⟨h1,h2,h3⟩ := h
    unfold putAt
    by_cases e:p.1 = k
    · rw [if_pos e,if_pos (h1.symm.trans e)]; exact ⟨h1,h2,ry⟩
    · rw [if_neg e,if_neg (fun z => e (h1.trans z))]; exact ⟨h1,h2,h3⟩
theorem KT.put {H:Hp} {kvs:List (List Key × V)} {xs:List (List Key × Addr × Value)} (r:KT H kvs xs) (k:List Key) {b:Addr} {y:V} {u:Value} (hb:H b = some (.tup (k.map kV))) (ry:RelV y u) :
    KT H (x0 kvs k y) (storedH xs k b u) := by
  have e:(kvs.any fun kv => decide (kv.1 = k)) = (atKey xs k).isSome := by
    rw [XS,(r.val k).isSome_eq,Option.isSome_map]
  unfold x0 storedH
  rw [e]
  by_cases q:(atKey xs k).isSome = true
  · rw [if_pos q,if_pos q]; exact r.repl k ry
  · rw [if_neg q,if_neg q]; exact Paired.snoc r ⟨rfl,hb,ry⟩
theorem KT.keeps {H H':Hp} {kvs:List (List Key × V)} {xs:List (List Key × Addr × Value)} (r:KT H kvs xs) (ht:∀ b ys,H b = some (.tup ys) → H' b = some (.tup ys)):KT H' kvs xs :=
  Paired.mapP r fun _ _ z => ⟨z.1,ht _ _ z.2.1,z.2.2⟩
section
variable {P:Program} {w:World} {H:Hp} {h:Heap} {a:Addr}
theorem za5 {u:HO} (ok:HOk P w H h) (e:Rd H a u):yY P w H h a u := e.ok ok
theorem Qg {kvs:List (Key × V)} (ok:HOk P w H h) (e:Rd H a (.dK kvs)):kvs.length ≤ sizeLine ∧ (a == sysModules) = false ∧ ∃ vs,KV kvs vs ∧ h.DictOf (yP P w) a vs :=
  show yY P w H h a (.dK kvs) from za5 ok e
theorem ZG {kvs:List (Key × V)} (ok:HOk P w H h) (e:H a = some (.dK kvs)):kvs.length ≤ sizeLine ∧ (a == sysModules) = false ∧ ∃ vs,KV kvs vs ∧ h.DictOf (yP P w) a vs := Qg ok (.inl e)
theorem XT {ks:List Key} (ok:HOk P w H h) (e:H a = some (.tup (ks.map kV))):(tupleKind (yP P w)).is h ks a := by
  obtain ⟨_,its,r,o,h1,h2,n,h3⟩ := (show yY P w H h a (.tup (ks.map kV)) from ok a _ e)
  exact ⟨o,its.toArray,n,h1,h2,h3,by simpa using YV r⟩
theorem Qh {kvs:List (List Key × V)} (ok:HOk P w H h) (e:Rd H a (.dT kvs)):kvs.length ≤ sizeLine ∧ (a == sysModules) = false ∧
    ∃ xs,KT H kvs xs ∧ h.DictOfH (tupleKind (yP P w)) a xs := by
  obtain ⟨z,y,xs,r,o,es,ep,h1,h2,h3,h4,h5⟩ := (show yY P w H h a (.dT kvs) from za5 ok e)
  refine ⟨z,y,xs,r,o,es,ep,h1,h2,h3,h4,fun x hx => ?_,h5⟩
  have all:∀ {l:List (List Key × V)} {m:List (List Key × Addr × Value)},KT H l m → ∀ x ∈ m,(tupleKind (yP P w)).is h x.1 x.2.1 := by
    intro l m q
    induction q with
    | nil => intro x hx; exact nomatch hx
    | @cons p q ps qs hq t ih =>
      intro x hx
      rcases List.mem_cons.mp hx with e | hx
      · subst e
        exact XT ok (by rw [← hq.1]; exact hq.2.1)
      · exact ih x hx
  exact all r x hx
theorem zeU {kvs:List (List Key × V)} (ok:HOk P w H h) (e:H a = some (.dT kvs)):kvs.length ≤ sizeLine ∧ (a == sysModules) = false ∧
    ∃ xs,KT H kvs xs ∧ h.DictOfH (tupleKind (yP P w)) a xs := Qh ok (.inl e)
end
noncomputable def j7 (H:Hp) (a:Addr) (y:V) (r:Option V):Prop :=
  (∃ kvs k,Rd H a (.dK kvs) ∧ y = kV k ∧ r = vM kvs k) ∨ ∃ kvs k b,Rd H a (.dT kvs) ∧ y = .ref b ∧ H b = some (.tup (k.map kV)) ∧ r = vM kvs k
noncomputable def Zo (H:Hp) (a:Addr) (y v:V) (H':Hp):Prop :=
  (∃ kvs k,H a = some (.dK kvs) ∧ y = kV k ∧ kvs.length < sizeLine ∧ H' = upd H a (.dK (x0 kvs k v))) ∨
  ∃ kvs k b,H a = some (.dT kvs) ∧ y = .ref b ∧ H b = some (.tup (k.map kV)) ∧ kvs.length < sizeLine ∧ H' = upd H a (.dT (x0 kvs k v))
theorem j7.k {H:Hp} {a:Addr} {kvs:List (Key × V)} {k:Key} (e:H a = some (.dK kvs)):j7 H a (kV k) (vM kvs k) := .inl ⟨kvs,k,.inl e,rfl,rfl⟩
theorem j7.t {H:Hp} {a b:Addr} {kvs:List (List Key × V)} {k:List Key} (e:H a = some (.dT kvs)) (eb:H b = some (.tup (k.map kV))):j7 H a (.ref b) (vM kvs k) := .inr ⟨kvs,k,b,.inl e,rfl,eb,rfl⟩
theorem Zo.k {H:Hp} {a:Addr} {kvs:List (Key × V)} {k:Key} {v:V} (e:H a = some (.dK kvs)) (hl:kvs.length < sizeLine):Zo H a (kV k) v (upd H a (.dK (x0 kvs k v))) := .inl ⟨kvs,k,e,rfl,hl,rfl⟩
theorem Zo.t {H:Hp} {a b:Addr} {kvs:List (List Key × V)} {k:List Key} {v:V} (e:H a = some (.dT kvs)) (eb:H b = some (.tup (k.map kV))) (hl:kvs.length < sizeLine) :
    Zo H a (.ref b) v (upd H a (.dT (x0 kvs k v))) := .inr ⟨kvs,k,b,e,rfl,eb,hl,rfl⟩
section
variable {X:Cx} {pins:List (Addr × Obj)} {σ:St} {H:Hp} {s:Shared} {a:Addr} {y v:V} {u r:Value} {o:Option V} {A:Around} {E:Value → Shared → Prop}
theorem Inv.big (I:Inv X pins σ H s):sysModules < s.heap.objs.size := by
  have h:mainGlobals < s.heap.objs.size := (I.mod.glob.keeps I.bk).lt
  exact Nat.lt_trans (by decide) h
theorem Jy {Q:Value → Shared → Prop} (hu:A.units + 1 < cLine) (I:Inv X pins σ H s) (g:j7 H a y (some v)) (ry:RelV y u) (h:∀ w' s',Inv X pins σ H s' → RelV v w' → Q w' s') :
    wpAny (model X.prog X.w) A (getItem (.ref a) u) Q E s := by
  rcases g with ⟨kvs,k,e,ey,l⟩ | ⟨kvs,k,b,e,ey,eb,l⟩
  · subst ey
    obtain ⟨z,hd,vs,rel,dd⟩ := Qg I.hok e
    obtain ⟨w',hw,rw'⟩ := va.some_of (v := v) (o := valueAt vs k) (by rw [l]; exact rel.val k)
    exact wpAny_getItem_of (kP ry) dd.mapOf hw (h w' _ (I.tok _) rw')
  · subst ey
    cases (show u = Value.ref b from ry)
    obtain ⟨z,hd,xs,rel,dd⟩ := Qh I.hok e
    obtain ⟨w',hw,rw'⟩ := va.some_of (v := v) (o := (atKey xs k).map (·.2)) (by rw [l]; exact rel.val k)
    obtain ⟨p,hp,hp2⟩ := Option.map_eq_some_iff.mp hw
    refine wpAny_getItem_heap (tupleKind_room_in1 hu) (XT I.hok eb) dd hp ?_
    rw [hp2]
    exact h w' _ (I.tok _) rw'
theorem kQ {h':Heap} {t':Nat} {ob:HO} (I:Inv X pins σ H s) (mu:Mut (H a)) (hs:Heap.SameBut a s.heap h') (he:∃ q,h'.get? a = some q) (new:yY X.prog X.w (upd H a ob) h' a ob) :
    Inv X pins σ (upd H a ob) { s with heap := h',toks := t' } :=
  I.write (x := a) (e := a) mu (.inl rfl) (fun b q hb z => (hs.2 b hb).trans z) he new
theorem j8 {P:Program} {w:World} {H':Hp} {h':Heap} {kvs:List (Key × V)} {vs:List (Key × Value)} (z:kvs.length ≤ sizeLine) (hd:(a == sysModules) = false) (rel:KV kvs vs) (dd:h'.DictOf (yP P w) a vs) :
    yY P w H' h' a (.dK kvs) := ⟨z,hd,vs,rel,dd⟩
theorem Jz {H':Hp} {Q:Unit → Shared → Prop} (hu:A.units + 1 < cLine) (I:Inv X pins σ H s) (g:Zo H a y v H') (ry:RelV y u) (rv:RelV v r) (h:∀ s',Inv X pins σ H' s' → Q () s') :
    wpAny (model X.prog X.w) A (setItem (.ref a) u r) Q E s := by
  rcases g with ⟨kvs,k,e,ey,l,eH⟩ | ⟨kvs,k,b,e,ey,eb,l,eH⟩
  · subst ey eH
    obtain ⟨z,hd,vs,rel,dd⟩ := ZG I.hok e
    have hz:vs.length ≤ sizeLine := by rw [← rel.length]; exact z
    have hl:(x0 kvs k v).length ≤ sizeLine := by have := qE kvs k v; omega
    refine wpAny_setItem_pairs (hsz := hz) (kP ry) dd fun h' dd' hs => h _ ?_
    have he:∃ q,h'.get? a = some q := let ⟨q,_,_,hq,_⟩ := dd'; ⟨q,hq⟩
    exact kQ I (by rw [e]; exact True.intro) hs he (j8 hl hd (rel.put k rv) dd')
  · subst ey eH
    cases (show u = Value.ref b from ry)
    obtain ⟨z,hd,xs,rel,dd⟩ := zeU I.hok e
    have hz:xs.length ≤ sizeLine := by rw [← Paired.length rel]; exact z
    have hl:(x0 kvs k v).length ≤ sizeLine := by have := qE kvs k v; omega
    refine wpAny_setItem_heap (hsz := hz) (tupleKind_room_in1 hu) (XT I.hok eb) dd fun h' dd' hs => h _ ?_
    obtain ⟨q,es,ep,hq,h2,h3,h4,_,h5⟩ := dd'
    refine kQ I (by rw [e]; exact True.intro) hs ⟨q,hq⟩ ⟨hl,hd,_,(rel.put k eb rv).keeps fun c ys ec => ?_,q,es,ep,hq,h2,h3,h4,h5⟩
    rw [zi (zeM ec e (fun z => nomatch z))]
    exact ec
end
section
variable {X:Cx} {pins:List (Addr × Obj)} {σ:St} {H:Hp} {s:Shared} {a:Addr} {kvs:List (Key × V)} {k:Key} {u:Value} {A:Around} {E:Value → Shared → Prop}
end
noncomputable def KL (i:Expr):Prop := ∀ ov iv,subscripted i false ov iv = operate [ov,iv] (getItem ov iv)
theorem zb2 {prog:Program} {w:World} {A:Around} {E:Value → Shared → Prop} {s:Shared} {env:Env} {value slice:Expr} {pos:Pos} {T id:String} {Q:Value → Shared → Prop}
    (hl:typeLookup (.type T) "__getitem__" = pure (some (.builtin id))) (hs:KL slice)
    (h:wpAny (model prog w) A (eval value env) (fun o s₁ => wpAny (model prog w) A (eval slice env) (fun i s₂ => s₂.TypeIs o T ∧ wpAny (model prog w) A (getItem o i) Q E s₂) E s₁) E s) :
    wpAny (model prog w) A (eval (.Subscript value slice pos) env) Q E s := by
  refine Subscript_ (wpAny_mono h (fun o s₁ h₁ => wpAny_mono h₁ (fun i s₂ h₂ => ?_) fun _ _ x => x) fun _ _ x => x)
  obtain ⟨hT,h₂⟩ := h₂
  unfold subscriptTail
  refine wpAny_bind ?_
  rw [getitemInPython_of_ne hT.not_modules]
  refine wpAny_bind (wpAny_specialOf hT hl ?_)
  have fin:wpAny (model prog w) A (subscripted slice false o i) (fun r s₃ => wpAny (model prog w) A (letTemporaryGo value o r >>= fun _ => pure r) Q E s₃) E s₂ := by
    rw [hs o i]
    exact wpAny_operating (wpAny_mono h₂ (fun r s₃ h₃ => wpAny_bind (wpAny_letTemporaryGo (wpAny_pure h₃))) fun _ _ x => x)
  first
    | exact wpAny_pure (wpAny_bind fin)
    | exact wpAny_bind (wpAny_pure (wpAny_bind fin))
    | exact wpAny_bind fin
theorem V6 {X:Cx} {pins:List (Addr × Obj)} {σ:St} {H:Hp} {s:Shared} {a:Addr} {y:V} {o:Option V} (I:Inv X pins σ H s) (g:j7 H a y o):s.TypeIs (.ref a) "dict" := by
  rcases g with ⟨kvs,k,e,_,_⟩ | ⟨kvs,k,b,e,_,_,_⟩
  · obtain ⟨_,_,vs,_,dd⟩ := Qg I.hok e
    exact dd.typeIs
  · obtain ⟨_,_,xs,_,dd⟩ := Qh I.hok e
    exact dd.typeIs
noncomputable def zeV (td ty:TE):TE := fun σ H Q => td σ H fun x H1 => ty σ H1 fun y H2 => ∃ a v,x = .ref a ∧ j7 H2 a y (some v) ∧ Q v H2
noncomputable def zeW (td ty tv:TE):TS := fun D σ H => tv σ H fun v H1 => td σ H1 fun x H2 => ty σ H2 fun y H3 => ∃ a H4,x = .ref a ∧ Zo H3 a y v H4 ∧ D.nx σ H4
section
variable {X:Cx} {o i e value:Expr} {pos pos' tpos:Pos} {td ty tv:TE}
theorem zb3 (hu:X.A.units + 1 < cLine) (ho:PE X o td) (hi:PE X i ty) (hs:KL i):PE X (.Subscript o i pos) (zeV td ty) := by
  intro pins s σ H Q I h
  refine zb2 PySem.F.slot_dict_getitem.lookup hs (thn (ho pins s σ H _ I h) fun u s1 ⟨x,H1,I1,rx,q1⟩ => thn (hi pins s1 σ H1 _ I1 q1) fun iv s2 ⟨y,H2,I2,ry,a,v,ex,g,q2⟩ => ?_)
  subst ex
  obtain rfl:u = Value.ref a := rx
  exact ⟨V6 I2 g,Jy hu I2 g ry fun w' s3 I3 rw' => ⟨v,H2,I3,rw',q2⟩⟩
theorem zb4 (hu:X.A.units + 1 < cLine) (ho:PE X o td) (hi:PE X i ty) (hv:PE X value tv) (hs:swapsWith value (some (.Subscript o i pos')) pos.line X.env = pure false) :
    PS X (.Assign [.Subscript o i pos'] value pos) (zeW td ty tv) := by
  intro pins s σ H D I h
  refine wpAny_Assign_Subscript (thn (hv pins s σ H _ I h) fun r s1 ⟨v,H1,I1,rv,q1⟩ => thn (ho pins s1 σ H1 _ I1 q1) fun u s2 ⟨x,H2,I2,rx,q2⟩ => thn (hi pins s2 σ H2 _ I2 q2) fun iv s3 ⟨y,H3,I3,ry,a,H4,ex,g,q3⟩ => ?_) hs
  subst ex
  obtain rfl:u = Value.ref a := rx
  exact Jz hu I3 g ry rv fun s4 I4 => ⟨σ,H4,I4,q3⟩
end
theorem KM {P:Program} {w:World} {H:Hp} (h:Heap) (hb:sysModules < h.objs.size):yY P w H (h.push { cls := .type "dict",data := .dict #[] }) h.objs.size (.dK []) :=
  ⟨Nat.zero_le _,beq_eq_false_iff_ne.mpr (Ne.symm (Nat.ne_of_lt hb)),[],.nil,Heap.DictOf.new h⟩
section
variable {X:Cx} {pos:Pos}
end
noncomputable def ZH:List (TE × TE) → St → Hp → (List (V × V) → Hp → Prop) → Prop
  | [],_,H,Q => Q [] H
  | (tk,tv) :: r,σ,H,Q => tk σ H fun x H1 => tv σ H1 fun y H2 => ZH r σ H2 fun ps H3 => Q ((x,y) :: ps) H3
noncomputable abbrev VV:List (V × V) → List (Value × Value) → Prop := Paired fun p q => RelV p.1 q.1 ∧ RelV p.2 q.2
noncomputable def PPs (X:Cx) (pos:Pos) (keys:List (Option Expr)) (values:List Expr) (trs:List (TE × TE)):Prop :=
  ∀ (pins:List (Addr × Obj)) (s:Shared) (σ:St) (H:Hp) (Q:List (V × V) → Hp → Prop),Inv X pins σ H s → ZH trs σ H Q →
    wpAny (model X.prog X.w) X.A (evalPairs (pairTrees keys values X.env pos)) (fun vs s' => ∃ ps H',Inv X pins σ H' s' ∧ VV ps vs ∧ Q ps H') X.xe s
theorem Yq {X:Cx} {pos:Pos}:PPs X pos [] [] [] := fun pins s σ H Q I h => pairTrees_nil_walk ⟨[],H,I,.nil,h⟩
theorem xv {X:Cx} {pos:Pos} {k v:Expr} {ks:List (Option Expr)} {vs:List Expr} {tk tv:TE} {trs:List (TE × TE)} (hk:PE X k tk) (hv:PE X v tv) (hr:PPs X pos ks vs trs) :
    PPs X pos (some k :: ks) (v :: vs) ((tk,tv) :: trs) := fun pins s σ H Q I h =>
  pairTrees_cons_walk (thn (hk pins s σ H _ I h) fun u s1 ⟨x,H1,I1,rx,q1⟩ => thn (hv pins s1 σ H1 _ I1 q1) fun w2 s2 ⟨y,H2,I2,ry,q2⟩ =>
    thn (hr pins s2 σ H2 _ I2 q2) fun ws s3 ⟨ps,H3,I3,rel,q3⟩ => ⟨(x,y) :: ps,H3,I3,.cons ⟨rx,ry⟩ rel,q3⟩)
noncomputable def xG (kvs more:List (Key × V)):List (Key × V) := more.foldl (fun acc kv => x0 acc kv.1 kv.2) kvs
theorem KV.merge:∀ {more:List (Key × V)} {rs:List (Key × Value)} {kvs:List (Key × V)} {vs:List (Key × Value)},KV more rs → KV kvs vs → KV (xG kvs more) (merged vs rs) := by
  intro more rs kvs vs r
  unfold KV at r
  induction r generalizing kvs vs with
  | nil => intro q; exact q
  | @cons p q ps qs h t ih =>
    intro r0
    have e:KV (x0 kvs p.1 p.2) (stored vs q.1 q.2) := by
      have := r0.put p.1 h.2
      rw [← h.1]; exact this
    exact ih e
theorem x6:∀ (more kvs:List (Key × V)),(xG kvs more).length ≤ kvs.length + more.length
  | [],kvs => by show kvs.length ≤ kvs.length + 0; omega
  | p :: r,kvs => by
    have h1 := x6 r (x0 kvs p.1 p.2)
    have h2 := qE kvs p.1 p.2
    show (xG (x0 kvs p.1 p.2) r).length ≤ _
    rw [List.length_cons]; omega
theorem ZI {P:Program} {w:World}:∀ {kvs:List (Key × V)} {ws:List (Value × Value)},VV (kvs.map fun kv => (kV kv.1,kv.2)) ws → ∃ rs,Carries (yP P w) ws rs ∧ KV kvs rs
  | [],_,r => by rw [List.map_nil] at r; cases r; exact ⟨[],True.intro,.nil⟩
  | p :: kvs,_,r => by
    rw [List.map_cons] at r
    cases r with
    | @cons a b as bs h t =>
      obtain ⟨rs,c,q⟩ := ZI (P := P) (w := w) t
      obtain ⟨b1,b2⟩ := b
      exact ⟨(p.1,b2) :: rs,⟨kP h.1,rfl,c⟩,.cons ⟨rfl,h.2⟩ q⟩
noncomputable def za6 (trs:List (TE × TE)):TE := fun σ H Q => ∀ p,H p = none → ZH trs σ (upd H p (.dK [])) fun ps H2 => H2 p = some (.dK []) ∧ ∃ kvs:List (Key × V),ps = kvs.map (fun kv => (kV kv.1,kv.2)) ∧ kvs.length ≤ 15 ∧ Q (.ref p) (upd H2 p (.dK (xG [] kvs)))
theorem Yr {X:Cx} {pos:Pos} {keys:List (Option Expr)} {values:List Expr} {trs:List (TE × TE)} (h:PPs X pos keys values trs) (hall:keys.all (·.isSome) = true) (hl:keys.length = values.length) (h0:keys ≠ [])
    (h15:keys.length ≤ 15):PE X (.Dict keys values pos) (za6 trs) := by
  intro pins s σ H Q I q
  have hn := I.hok.fresh (Nat.le_refl s.heap.objs.size)
  have I1 := I.laid (a := s.heap.objs.size) (o := .dK []) (h' := s.heap.push { cls := .type "dict",data := .dict #[] }) (t' := s.toks) (fun _ _ q => Heap.get?_push_of_some _ q) (Nat.le_refl _) (KM s.heap I.big)
  refine wpAny_Dict_walk (knd := yP X.prog X.w) hall hl h0 h15 (thn (h pins _ σ _ _ I1 (q _ hn)) fun ws s2 ⟨ps,H2,I2,rel,e,kvs,ep,lk,q2⟩ => ?_)
  subst ep
  obtain ⟨rs,c,rk⟩ := ZI (P := X.prog) (w := X.w) rel
  obtain ⟨z,hd,vs0,r0,dd⟩ := ZG I2.hok e
  cases r0
  refine ⟨rs,c,dd,fun h' dd' hs => ⟨.ref s.heap.objs.size,_,?_,rfl,q2⟩⟩
  have hz:(xG [] kvs).length ≤ sizeLine := by
    have h1 := x6 kvs []
    rw [List.length_nil] at h1
    rw [sizeLine_eq]; omega
  have he:∃ q,h'.get? s.heap.objs.size = some q := let ⟨q,_,_,hq,_⟩ := dd'; ⟨q,hq⟩
  exact kQ I2 (by rw [e]; exact True.intro) hs he (j8 hz hd (rk.merge .nil) dd')
section
variable {X:Cx} {pins:List (Addr × Obj)} {σ:St} {H:Hp} {s:Shared} {a:Addr} {y d:V} {u r:Value} {o:Option V} {A:Around} {E:Value → Shared → Prop}
end
section
variable {X:Cx} {o e f:Expr} {apos cpos:Pos} {td ty tx:TE}
end
section
variable {X:Cx} {pins:List (Addr × Obj)} {σ:St} {H:Hp} {s:Shared} {a:Addr} {kvs:List (Key × V)} {A:Around} {E:Value → Shared → Prop}
end
section
variable {X:Cx} {pins:List (Addr × Obj)} {σ:St} {H:Hp} {s:Shared} {a:Addr} {y:V} {u:Value} {A:Around} {E:Value → Shared → Prop}
end
end L2
namespace PySem
theorem Y6:typeLookup (.type "list") "keys" = pure none := by rw [typeLookup_type,builtinLookup_eq_fast]; kernel_rfl
theorem vJ:entryFor table "dict.update.loop" = some Builtin.«dict.update.loop» := entryFor_of_tree (by kernel_rfl)
theorem xn:plainId "dict.update.loop" = true := by decide +kernel
section
variable {prog:Program} {w:World} {A:Around} {E:Value → Shared → Prop} {s:Shared}
theorem V7 {a:Addr} {o:Obj} {xs:Array Value} {k:Nat} {Q:Option Value → Shared → Prop}
    (hx:s.heap.get? a = some o) (hc:o.cls = .type "list") (hdat:o.data = .seq xs k) (hd:o.dict = none) (hA:A.handled = none)
    (h:∀ h' tk,(∀ b u,s.heap.get? b = some u → h'.get? b = some u) → Q none { s with heap := h',toks := tk }) :
    wpAny (model prog w) A (getAttr? (.ref a) "keys") Q E s := by
  obtain ⟨c,dct,dat,sl⟩ := o
  simp only at hc hdat hd
  subst hc hdat hd
  obtain ⟨hp,g,d,tk,os⟩ := s
  have hT:∀ tk',(⟨hp,g,d,tk',os⟩:Shared).TypeIs (.ref a) "list" := fun _ => ⟨_,hx,rfl⟩
  have f1 := sub_AttributeError
  have f3 := F.slot_list_getattribute.lookup
  have f4 := F.slot_list_getattribute.bind (.ref a)
  have f5 := am_list_getattr_none
  have hname:(["__module__","__name__","__qualname__","__doc__","__annotations__"]:List Str).contains "keys" = false := by decide
  unfold getAttr? getAttrBy? getAttrBy
  repeat (any_goals (first | assumption | exact hT _ | ((with_reducible show wpAny _ _ (call (Value.builtin "list.__getattribute__") _ _) _ _ _); refine call_meets F.slot_list_getattribute (hT _) am_entry_list_getattribute (F.args_list_getattribute_2 _ _) (meets_getattribute_miss_list a xs k sl "keys" _ Y6 hname (by decide)) ⟨hx,hA,fun h' tk' e hx' => ?_⟩) | wp_step))
  obtain ⟨t',u',he⟩ := hx'.there
  show wpAny _ _ (getattributeRaised _ _ _ _ _ _ _) _ _ _
  unfold getattributeRaised
  repeat (any_goals (first | assumption | wp_step))
  exact h _ _ hx'.keeps
end
section
variable {prog:Program} {w:World} {A:Around} {K:Type} [DecidableEq K] {knd:KeyKind prog w K}
theorem KN (hh:A.handled = none) {d it l:Addr} {items:Array Value} {r:Value} {R:Result → Shared → Prop} (hdi:d ≠ it) (hdl:d ≠ l) (hil:it ≠ l) :
    ∀ (more:List (K × Value)) (i:Nat) (s:Shared) (kvs:List (K × Value)),i + more.length = items.size → s.heap.DictOf knd d kvs → s.heap.IsListIter it l i → s.heap.IsList l items →
      (∀ (j:Nat) kv,more[j]? = some kv → ∃ t key,items[i + j]? = some (.ref t) ∧ t ≠ d ∧ t ≠ it ∧ PyProof.Rows.IsTup s.heap t #[key,kv.2] ∧ knd.is kv.1 key = true) → kvs.length + more.length ≤ sizeLine →
      (∀ h' tk,h'.DictOf knd d (merged kvs more) → (∀ c o,c ≠ d → c ≠ it → s.heap.get? c = some o → h'.get? c = some o) → R (.ok (.ret r)) { s with heap := h',toks := tk }) →
      codeAny (model prog w) A (.builtin "dict.update.loop" ⟨[.ref d,.ref it,rawInt i,r],[]⟩) R s := by
  intro more
  induction more with
  | nil =>
    intro i s kvs hi hd hit hl hp hz hR
    refine codeAny_builtin vJ ?_
    rw [Around.under_plainId xn _]
    show wpAny _ A.in1 (pyNext (.ref it) >>= _) _ _ _
    refine wpAny_bind (wpAny_pyNext_list_end (A := A.in1) hh hit hl (by simp at hi; simp; omega) fun h' eb => ?_)
    show wpAny _ _ (Builtin.Dict.addKeywords d [] >>= _) _ _ _
    exact wpAny_bind (wpAny_pure (wpAny_pure (hR h' s.toks (hd.extBut eb hdi) fun c o _ hc q => eb c o hc q)))
  | cons kv more ih =>
    intro i s kvs hi hd hit hl hp hz hR
    obtain ⟨t,key,hx,htd,hti,⟨o,ho,hc,n,hdat⟩,hk⟩ := hp 0 kv rfl
    refine codeAny_builtin vJ ?_
    rw [Around.under_plainId xn _]
    show wpAny _ A.in1 (pyNext (.ref it) >>= _) _ _ _
    refine wpAny_bind (wpAny_pyNext_list_item hit hl (x := .ref t) (by simpa using hx) fun h1 hit1 sb1 => ?_)
    have ho1:h1.get? t = some o := (sb1.2 t hti).trans ho
    show wpAny _ _ (holding [.ref t] _ >>= _) _ _ _
    refine wpAny_bind (wpAny_holding ?_)
    refine wpAny_bind (wpAny_tryCatch ?_)
    unfold Builtin.Dict.pairItems
    refine wpAny_bind (wpAny_typeOf (T := "tuple") ⟨o,ho1,hc⟩ ?_)
    rw [if_pos (by decide)]
    refine wpAny_bind (wpAny_seqItems ho1 hdat ?_)
    refine wpAny_pure ?_
    show wpAny _ _ (holding [key,kv.2] (dictSet d key kv.2)) _ _ _
    refine wpAny_holding (wpAny_dictSet_pairs hk (hd.sameBut sb1 hdi) (fun h2 hd2 sb2 => ?_) (by simp at hz; omega))
    show wpAny _ _ (again (.builtin "dict.update.loop" ⟨[.ref d,.ref it,rawInt ((i:Int) + 1),r],[]⟩)) _ _ _
    have ei:((i:Int) + 1) = (((i + 1:Nat)):Int) := by omega
    rw [ei]
    have keep:∀ c o,c ≠ d → c ≠ it → s.heap.get? c = some o → h2.get? c = some o := fun c o h3 h4 q => (sb2.2 c h3).trans ((sb1.2 c h4).trans q)
    refine wpAny_pure ⟨plainId_quiet xn _,ih (i + 1) _ (stored kvs kv.1 kv.2) (by simp at hi; omega) hd2 ?_ ?_ (fun j kv' hj => ?_) ?_ fun h3 tk hd3 k3 => ?_⟩
    · obtain ⟨oi,hoi,r1⟩ := hit1
      exact ⟨oi,(sb2.2 it (Ne.symm hdi)).trans hoi,r1⟩
    · obtain ⟨ol,hol,r1⟩ := hl
      exact ⟨ol,keep l ol (Ne.symm hdl) (Ne.symm hil) hol,r1⟩
    · obtain ⟨t',key',h1',h2',h3',⟨o',ho',r'⟩,h5'⟩ := hp (j + 1) kv' (by simpa using hj)
      refine ⟨t',key',?_,h2',h3',⟨o',keep t' o' h2' h3' ho',r'⟩,h5'⟩
      rw [← h1']
      congr 1
      omega
    · have := stored_length_le kvs kv.1 kv.2
      simp at hz
      omega
    · exact hR h3 tk hd3 fun c o h4 h5 q => k3 c o h4 h5 (keep c o h4 h5 q)
theorem KO {E:Value → Shared → Prop} {s:Shared} (hh:A.handled = none) {l:Addr} {o:Obj} {items:Array Value} {n:Nat} {Q:Value → Shared → Prop} (ho:s.heap.get? l = some o) (hc:o.cls = .type "list") (hdat:o.data = .seq items n) (hnd:o.dict = none) {more:List (K × Value)} (hlen:more.length = items.size)
    (hp:∀ (j:Nat) kv,more[j]? = some kv → ∃ t key,items[j]? = some (.ref t) ∧ PyProof.Rows.IsTup s.heap t #[key,kv.2] ∧ knd.is kv.1 key = true) (hz:more.length ≤ sizeLine)
    (h:∀ h' tk,h'.DictOf knd s.heap.objs.size (merged [] more) → (∀ c o,s.heap.get? c = some o → h'.get? c = some o) → Q (.ref s.heap.objs.size) { s with heap := h',toks := tk }) :
    wpAny (model prog w) A (call (.type "dict") [.ref l]) Q E s := by
  refine callType_codes (Q₁ := fun obj s₁ => obj = .ref s.heap.objs.size ∧ s₁ = { s with heap := s.heap.push { cls := .type "dict",data := .dict #[] } }) F.kt_called_dict (F.kt_typeCall_dict_1 _) F.entry_dict_init (kt_code_dict_new _ ⟨rfl,rfl⟩) ?_
  rintro obj s₁ ⟨rfl,rfl⟩
  have hnew:(s.heap.push { cls := .type "dict",data := .dict #[] }).DictOf knd s.heap.objs.size [] := Heap.DictOf.new s.heap
  refine ⟨hnew.typeIs,F.args_dict_init_2 _ _,?_⟩
  have ho1:(s.heap.push { cls := .type "dict",data := .dict #[] }).get? l = some o := Heap.get?_push_of_some _ ho
  refine wpAny_bind ?_
  unfold Builtin.Dict.selfAndRest
  refine wpAny_bind (wpAny_notOrdered_dict hnew.typeIs ?_)
  refine wpAny_pure ?_
  show wpAny _ _ (Builtin.Dict.updateFrom "dict.__init__" s.heap.objs.size (.ref l) [] .none) _ _ _
  unfold Builtin.Dict.updateFrom
  refine wpAny_bind (wpAny_typeOf (T := "list") ⟨o,ho1,hc⟩ ?_)
  rw [if_pos (by decide)]
  refine wpAny_bind (V7 (A := A.in1.in1) ho1 hc hdat hnd hh fun h1 tk k1 => ?_)
  rw [if_pos (by rfl)]
  refine wpAny_bind (wpAny_rule ?_)
  have ho2:h1.get? l = some o := k1 _ _ ho1
  refine wpAny_bind (wpAny_pyIter_list (items := items) ⟨o,ho2,hc,n,hdat⟩ ?_)
  have hlt:s.heap.objs.size < h1.objs.size := Heap.lt_size (k1 _ _ (Heap.get?_push_size s.heap (o := { cls := .type "dict",data := .dict #[] }) rfl))
  have hl0:l < s.heap.objs.size := Heap.lt_size ho
  obtain ⟨od,es,ep,hod,rd⟩ := hnew
  have kk:∀ c u,s.heap.get? c = some u → (h1.push { cls := .type "list_iterator",data := .fields #[.ref l,.int 0 0] }).get? c = some u := fun c u q => Heap.get?_push_of_some _ (k1 _ _ (Heap.get?_push_of_some _ q))
  refine wpAny_pure ⟨plainId_quiet xn _,KN (knd := knd) (A := A.in1) (d := s.heap.objs.size) (it := h1.objs.size) (l := l) (items := items) hh (Nat.ne_of_lt hlt) (Nat.ne_of_gt hl0) (Nat.ne_of_gt (Nat.lt_trans hl0 hlt)) more 0 _ [] (by rw [hlen]; omega) ?_ ?_ ?_ (fun j kv hj => ?_) (by simpa using hz) fun h' tk' hd' k' => ⟨rfl,?_⟩⟩
  · exact ⟨od,es,ep,Heap.get?_push_of_some _ (k1 _ _ hod),rd⟩
  · exact ⟨_,Heap.get?_push_size _ rfl,rfl,rfl⟩
  · exact ⟨o,Heap.get?_push_of_some _ ho2,hc,n,hdat⟩
  · obtain ⟨t,key,e1,⟨ot,e2,r2⟩,e3⟩ := hp j kv hj
    have ht:t < s.heap.objs.size := Heap.lt_size e2
    exact ⟨t,key,by simpa using e1,Nat.ne_of_lt ht,Nat.ne_of_lt (Nat.lt_trans ht hlt),⟨ot,kk _ _ e2,r2⟩,e3⟩
  · exact h h' tk' hd' fun c u q => k' c u (Nat.ne_of_lt (Heap.lt_size q)) (Nat.ne_of_lt (Nat.lt_trans (Heap.lt_size q) hlt)) (kk c u q)
end
end PySem
namespace PySem
open PySem PySem.W PySem.Calls PyProof.Rows
section
variable {prog:Program} {w:World} {A:Around} {E:Value → Shared → Prop} {s:Shared} {T:String} {r d:Addr} {n:Nat} {P:Nat → Value → Prop} {OK:Heap → Prop}
theorem XU:∀ (vs:List Value) (ns:List Int),vs.length = ns.length → (∀ (j:Nat) v,vs[j]? = some v → ∃ i t,v = Value.int i t ∧ ns[j]? = some i) → PyProof.Rows.IntsAre vs ns
  | [],[],_,_ => .nil
  | v :: vs,i :: ns,e,h => by
    obtain ⟨k,t,rfl,hk⟩ := h 0 v rfl
    cases hk
    exact .cons _ t (XU vs ns (by simpa using e) fun j v hj => h (j + 1) v (by simpa using hj))
theorem zb5 (C:KdlSrc prog w T r d n P OK) (hh:A.handled = none) (hok:OK s.heap) (hn:n ≤ sizeLine) {ns:List Int} (hns:ns.length = n) (h64:n < 64) (hP:∀ (j:Nat) v,P j v → ∃ i t,v = Value.int i t ∧ ns[j]? = some i) {Q:Value → Shared → Prop}
    (h:∀ (h1 h':Heap) (tk:Nat) (out:Array Value) (ns':List Int) (e:Nat),PyProof.Rows.IntsAre out.toList ns' → ns'.Perm ns → ns'.Pairwise (· ≤ ·) → (∀ b o,s.heap.get? b = some o → h1.get? b = some o) → (∀ b o,h1.get? b = some o → h'.get? b = some o) → h'.get? h1.objs.size = some (seqObj "list" out e) → Q (.ref h1.objs.size) { s with heap := h',toks := tk }) :
    wpAny (model prog w) A (call (.builtin "sorted") [.ref r]) Q E s := by
  refine call_function_entry kind_sorted plain_sorted entry_sorted (args_sorted1 _) ?_
  unfold Builtin.«sorted»
  refine wpAny_bind (m := checkCount "sorted" 1 1 _) (wpAny_pure ?_)
  refine wpAny_bind (kdu_collect (A := A.in1) C hh hok hn fun h1 tk acc hk hacc => ?_)
  have hl:acc.toList.length = n := by rw [Array.length_toList]; exact hacc.1
  refine wpAny_bind (wpAny_newList ?_ (by rw [hl]; exact hn))
  have hoL:(h1.push (seqObj "list" acc.toList.toArray 0)).get? h1.objs.size = some (seqObj "list" acc.toList.toArray 0) := Heap.get?_push_size _ rfl
  have hI:PyProof.Rows.IntsAre acc.toList ns := XU _ _ (by rw [hl,hns]) fun j v hj => hP j v (hacc.2 j v (by rw [← Array.getElem?_toList]; exact hj))
  refine wpAny_bind (wpAny_holding (wpAny_call_entry slot_list_sort ⟨_,hoL,rfl⟩ entry_list_sort (list_sort_tree hoL hI (by rw [hl]; exact h64) fun out ns' a1 a2 a3 => ⟨_,rfl,?_⟩) (args_list_sort _)))
  obtain ⟨e,he⟩ := sortedHeap_at (out := out) hoL
  exact wpAny_pure ⟨_,rfl,h h1 _ tk out ns' e a1 a2 a3 hk (fun b o q => by rw [sortedHeap_old (Nat.ne_of_lt (Heap.lt_size q)) (by rw [size_push']; exact Nat.lt_succ_of_lt (Heap.lt_size q))]; exact Heap.get?_push_of_some _ q) he⟩
end
end PySem
namespace L2
open PySem PySem.Spec PyProof.Rows
theorem Inv.turnedL {X:Cx} {pins:List (Addr × Obj)} {σ:St} {H:Hp} {s:Shared} {h':Heap} {t':Nat} {fp:List Addr} (I:Inv X pins σ H s) (k:∀ b o,b ∉ fp → s.heap.get? b = some o → h'.get? b = some o)
    (hf:∀ b ∈ fp,FpOk X pins H b):Inv X pins σ H { s with heap := h',toks := t' } := by
  have nit:∀ b u,H b = some u → b ∉ fp := fun b u e z => by rw [(hf b z).1] at e; cases e
  refine I.step (g' := s.gens) (d' := s.drawn) (ch := fp) (fun b hb => ?_) (fun b o _ _ hc e _ => k b o hc e) (fun b o _ _ hc e _ => ⟨o.slots,k b o hc e⟩) (fun _ _ _ _ n => n)
    (fun b o hc e => ⟨o,k b o hc e⟩) (fun _ _ e => e) (fun _ _ _ e => e) (fun b ps e => ⟨#[],by rw [e]; simp⟩) (fun m hm => ?_) (fun b u e => ?_) I.bare
  · obtain ⟨f0,f1,f2,f3,f4,f5⟩ := hf b hb
    exact ⟨f3,f1,f4,f5⟩
  · obtain ⟨o,es,ep,ho,r⟩ := hm
    exact ⟨o,es,ep,k _ o (fun z => (hf _ z).2.1 rfl) ho,r⟩
  · refine (I.hok b u e).stay (fun c v hc q => k c v ?_ q) (fun _ q => q) fun _ _ q => q
    rcases hc with z | z
    · rw [z]; exact nit b u e
    · exact nit c _ z
noncomputable def Ite (K:PySem.W.Frag) (a:Addr):It :=
  ⟨fun i H => ∃ xs x,SqL K H a xs ∧ xs[i]? = some x,fun i H x H' => ∃ t y,x = .ref t ∧ H t = none ∧ H' = upd H t (.tup [.int i,y]) ∧ ∀ xs,SqL K H a xs → xs[i]? = some y,fun i H => ∃ xs,SqL K H a xs ∧ xs.length ≤ i⟩
theorem JA {P:Program} {w:World} {K:PySem.W.Frag} {es:List Expr} {k:Nat} {pos:Pos} (a e it:Addr) (hne:e ≠ it) :
    Turn P w K (.Tuple es k pos) (Ite K a) [e,it] e (fun i h => (∃ old,IsEnum h e it (i:Nat) old) ∧ h.IsListIter it a i) where
  mem := by simp
  obj := fun i h st b hb => by
    obtain ⟨⟨old,he⟩,o,e1,c,d⟩ := st
    have hb':b = e ∨ b = it := by simpa using hb
    rcases hb' with rfl | rfl
    · exact ⟨_,he,fun v z => by
        have z':Data.fields _ = Data.cell v := z
        cases z'⟩
    · exact ⟨o,e1,fun v z => by rw [d] at z; cases z⟩
  keep := fun i h h' st k => ⟨st.1.elim fun old he => ⟨old,k e (by simp) _ he⟩,st.2.at fun o q => k it (by simp) o q⟩
  item := by
    intro X hP hw hK hc i pins s σ H E I hf st hg
    subst hP hw hK
    obtain ⟨⟨old,he⟩,hit⟩ := st
    obtain ⟨xs,x,hq,hx⟩ := hg
    obtain ⟨its,rv,p,hz⟩ := I.list hq
    obtain ⟨u,hu,ru⟩ := rv.get hx
    refine wpAny_pyNext_enum_item he hit p.isList (x := u) (by simpa using hu) hne fun h' he' hit' ht hsz kk => ?_
    refine ⟨_,rfl,wpAny_letOwnedTupleGo_enum he' fun h2 he2 sb => ?_⟩
    have hn := I.hok.fresh (Nat.le_refl s.heap.objs.size)
    have I1:Inv X pins σ (upd H s.heap.objs.size (.tup [.int i,x])) { s with heap := s.heap.push { cls := .type "tuple",data := .seq [Value.int i s.toks,u].toArray },toks := s.toks + 1 } :=
      I.laid (fun b o e => Heap.get?_push_of_some _ e) (Nat.le_refl _) ⟨by show 2 ≤ sizeLine; decide,[Value.int i s.toks,u],.cons ⟨_,rfl⟩ (.cons ru .nil),IsTup.new s.heap _⟩
    have lt:∀ b ∈ [e,it],b ≠ s.heap.objs.size := fun b hb => by
      have hb':b = e ∨ b = it := by simpa using hb
      rcases hb' with rfl | rfl
      · exact Nat.ne_of_lt (Heap.lt_size he)
      · obtain ⟨o,e1,_⟩ := hit
        exact Nat.ne_of_lt (Heap.lt_size e1)
    have nt:∀ b ∈ [e,it],upd H s.heap.objs.size (.tup [.int i,x]) b = none := fun b hb => by rw [zi (lt b hb)]; exact (hf b hb).1
    have I2 := I1.turnedL (h' := h2) (t' := s.toks + 1) (fp := [e,it]) (fun b o hb q => by
      have h1:b ≠ e := fun z => hb (by simp [z])
      have h2':b ≠ it := fun z => hb (by simp [z])
      by_cases hbz:b = s.heap.objs.size
      · subst hbz
        have q':(s.heap.push { cls := .type "tuple",data := .seq #[Value.int i s.toks,u] }).get? s.heap.objs.size = some o := q
        rw [Heap.get?_push_size s.heap (o := { cls := .type "tuple",data := .seq #[Value.int i s.toks,u] }) rfl] at q'
        exact (sb.2 _ h1).trans (ht.trans q')
      · have q':(s.heap.push { cls := .type "tuple",data := .seq #[Value.int i s.toks,u] }).get? b = some o := q
        rw [Heap.get?_push_ne _ _ _ hbz] at q'
        exact (sb.2 b h1).trans (kk b o h1 h2' q')) fun b hb => ⟨nt b hb,(hf b hb).2⟩
    have ei:((i:Int) + 1) = (((i + 1:Nat)):Int) := by omega
    refine ⟨.ref s.heap.objs.size,_,I2,rfl,⟨_,x,rfl,hn,rfl,fun ys hy => by rw [I.list_inj hy hq]; exact hx⟩,⟨⟨_,ei ▸ he2⟩,hit'.at fun o q => (sb.2 it (Ne.symm hne)).trans q⟩,nt⟩
  done := by
    intro X hP hw hK hc i pins s σ H E I hf st hg
    subst hP hw hK
    obtain ⟨⟨old,he⟩,hit⟩ := st
    obtain ⟨xs,hq,hx⟩ := hg
    obtain ⟨its,rv,p,hz⟩ := I.list hq
    have hl := rv.length
    obtain ⟨f0,f1,f2,f3,f4,f5⟩ := hf it (by simp)
    exact wpAny_pyNext_enum_end (I.ok.hd hc) he hit p.isList (by simp; omega) fun h' eb => ⟨rfl,I.turned (t' := s.toks) (fun b o hb e => eb b o hb e) f0 f1 f3 f4 f5⟩
  self := fun _ _ _ _ _ st h => st.1.elim fun old he => wpAny_pyIter_enum he h
noncomputable def Qi (K:PySem.W.Frag) (ta:TA):TI := fun σ H R => ta σ H fun vs H1 => ∃ a,vs = [.ref a] ∧ (∃ xs,SqL K H1 a xs) ∧ R (Ite K a) H1
section
variable {X:Cx}
theorem zb6 {es:List Expr} {k:Nat} {tp:Pos} {l:Expr} {ta:TA} {p pos:Pos} (hg:Gl X "enumerate") (hm:X.mg "enumerate" = none) (ha:PA X [l] ta) (hs:starEach [l] X.env = [(false,eval l X.env)] := by rfl) :
    PI X (.Tuple es k tp) (.Call (.Name "enumerate" p) [l] [] pos) (Qi X.K ta) := by
  intro pins s σ H R I h
  refine Call_ (vY I hg hm boot_enumerate (PyProof.Rows.callWith_type1 (thn (ha pos pins s σ H _ I h) fun us s1 ⟨vs,H1,I1,r1,q1⟩ => ?_) hs rfl))
  obtain ⟨a,e,⟨xs,hq⟩,q⟩ := q1
  subst e
  cases r1 with
  | cons r rr =>
    cases rr
    cases r
    obtain ⟨its,rv,p,hz⟩ := I1.list hq
    refine call_enumerate_list p.isList fun h' hE hI hsz hk => wpAny_pyIter_enum hE ?_
    refine ⟨s1.heap.objs.size + 1,[s1.heap.objs.size + 1,s1.heap.objs.size],_,_,H1,rfl,I1.kept (t' := s1.toks) hk,JA a _ _ (Nat.succ_ne_self _),⟨⟨_,hE⟩,hI⟩,fun b hb => ?_,q⟩
    have hb':b = s1.heap.objs.size + 1 ∨ b = s1.heap.objs.size := by simpa using hb
    rcases hb' with rfl | rfl
    · exact I1.fpOk (Nat.le_succ _) (I1.hok.fresh (Nat.le_succ _))
    · exact I1.fpOk (Nat.le_refl _) (I1.hok.fresh (Nat.le_refl _))
end
noncomputable def za7 (K:PySem.W.Frag) (a:Addr) (g:TG) (tb:TS) (D:Ends) (σ:St) (H:Hp):Prop := ∃ W:Nat → Nat → St → Hp → Prop,(∃ m,W 0 m σ H) ∧ ∀ i m σ H,W i m σ H →
  ((Ite K a).stop i H ∧ D.nx σ H) ∨ ((Ite K a).go i H ∧ ∃ N:St → Hp → Prop,(∀ σ' H',N σ' H' → ∃ m',m' < m ∧ W (i + 1) m' σ' H') ∧ ∀ x H',(Ite K a).yld i H x H' → g x σ H' fun σ2 H2 => tb { D with nx := N,ct := N,bk := D.nx } σ2 H2)
theorem za7.run {K:PySem.W.Frag} {a:Addr} {xs:List V} {g:TG} {tb:TS} {D:Ends} {σ:St} {H:Hp} (Pv:Nat → St → Hp → Prop) (h0:Pv 0 σ H) (hl:∀ i σ H,i ≤ xs.length → Pv i σ H → SqL K H a xs)
    (hs:∀ i x σ H t,xs[i]? = some x → Pv i σ H → H t = none → ∀ R:St → Hp → Prop,(∀ σ' H',Pv (i + 1) σ' H' → R σ' H') → g (.ref t) σ (upd H t (.tup [.int i,x])) fun σ2 H2 => tb { D with nx := R,ct := R,bk := D.nx } σ2 H2) (hd:∀ σ H,Pv xs.length σ H → D.nx σ H) :
    za7 K a g tb D σ H := by
  refine ⟨fun i m σ H => m = xs.length - i ∧ i ≤ xs.length ∧ Pv i σ H,⟨xs.length,by simp,Nat.zero_le _,h0⟩,?_⟩
  rintro i m σ H ⟨rfl,hi,p⟩
  have q := hl i σ H hi p
  by_cases hlt:i < xs.length
  · refine .inr ⟨⟨xs,xs[i],q,by simp [hlt]⟩,Pv (i + 1),fun σ' H' p' => ⟨xs.length - (i + 1),by omega,rfl,hlt,p'⟩,?_⟩
    rintro _ _ ⟨t,y,rfl,ht,rfl,hy⟩
    exact hs i y σ H t (hy xs q) p ht _ fun _ _ z => z
  · have e:i = xs.length := by omega
    subst e
    exact .inl ⟨⟨xs,q,Nat.le_refl _⟩,hd σ H p⟩
noncomputable def zdH (lo c:Int) (n:Nat):It := ⟨fun i _ => i < n,fun i H x H' => H' = H ∧ x = .int (lo + (i:Nat) * c),fun i _ => n ≤ i⟩
theorem V8 {P:Program} {w:World} {K:PySem.W.Frag} {tg:Expr} (it:Addr) (lo c:Int) (n:Nat):Turn P w K tg (zdH lo c n) [it] it (fun i h => IsRangeIter h it (lo + (i:Nat) * c) ((n:Int) - (i:Nat)) c) where
  mem := by simp
  obj := fun i h st b hb => by
    have e:b = it := by simpa using hb
    subst e
    exact ⟨_,st,fun v z => by
      have z':Data.fields _ = Data.cell v := z
      cases z'⟩
  keep := fun i h h' st k => k it (by simp) _ st
  item := by
    intro X hP hw hK hc i pins s σ H E I hf st hg
    subst hP hw hK
    obtain ⟨f0,f1,f2,f3,f4,f5⟩ := hf it (by simp)
    have W := Walks.range (prog := X.prog) (w := X.w) (I.ok.hd hc) it lo c n
    refine W.item i s _ _ hg st fun v h' tk hv st' kk => ?_
    obtain ⟨t,rfl⟩ := hv
    have I1:Inv X pins σ H { s with heap := h',toks := tk } := I.turned (fun b o hb e => kk b o (by simpa using hb) e) f0 f1 f3 f4 f5
    exact ⟨_,rfl,Xg (s := { s with heap := h',toks := tk }) (n := "range_iterator") st' rfl rfl (by decide) ⟨.int (lo + (i:Nat) * c),H,I1,⟨t,rfl⟩,⟨rfl,rfl⟩,st',fun b hb => (hf b hb).1⟩⟩
  done := by
    intro X hP hw hK hc i pins s σ H E I hf st hg
    subst hP hw hK
    obtain ⟨f0,f1,f2,f3,f4,f5⟩ := hf it (by simp)
    exact wpAny_pyNext_range_end (I.ok.hd hc) st (by have:n ≤ i := hg; omega) fun h' eb => ⟨rfl,I.turned (t' := s.toks) (fun b o hb e => eb b o hb e) f0 f1 f3 f4 f5⟩
  self := fun _ _ _ _ _ st h => wpAny_pyIter_rangeiter st h
end L2
namespace L2
open PySem PySem.Spec PyProof.Rows
section
variable {X:Cx} {tg:Expr}
noncomputable def R3 (i j c:Int) (n:Nat):Prop := c ≠ 0 ∧ Builtin.Range.small i j c = true ∧ Builtin.Range.rangeSize i j c = n ∧ Builtin.divisionGoesByPylong (j - i) c = false
noncomputable def za8 (ta:TA):TI := fun σ H R => ta σ H fun vs H1 => ∃ (i j c:Int) (n:Nat),vs = [.int i,.int j,.int c] ∧ R3 i j c n ∧ R (zdH i c n) H1
theorem JB {a b c:Expr} {ta:TA} {p pos:Pos} (hg:Gl X "range") (hm:X.mg "range" = none) (ha:PA X [a,b,c] ta) (hs:starEach [a,b,c] X.env = (false,eval a X.env) :: starEach [b,c] X.env := by rfl)
    (hs2:(backTo pos (starEach [b,c] X.env)).any (·.1) = false := by rfl):PI X tg (.Call (.Name "range" p) [a,b,c] [] pos) (za8 ta) := by
  intro pins s σ H R I h
  refine Call_ (vY I hg hm boot_range (PyProof.Rows.callWith_type1 (thn (ha pos pins s σ H _ I h) fun us s1 ⟨vs,H1,I1,r1,q1⟩ => ?_) hs hs2))
  obtain ⟨i,j,k,n,e,⟨k0,sm,sz,dv⟩,q⟩ := q1
  subst e
  cases r1 with
  | cons r rr =>
    cases rr with
    | cons r' rr =>
      cases rr with
      | cons r2 rr =>
        cases rr
        obtain ⟨t,rfl⟩ := r
        obtain ⟨t',rfl⟩ := r'
        obtain ⟨t2,rfl⟩ := r2
        refine call_range_3 k0 ?_ (.inl dv)
        refine wpAny_pyIter_range (IsRange.new ..) sm ?_
        have I2:Inv X pins σ H1 { s1 with heap := s1.heap.push { cls := .type "range",data := .fields #[.int i t,.int j t',.int k t2] } } := I1.kept (t' := s1.toks) fun b o e => Heap.get?_push_of_some _ e
        refine ⟨_,[(s1.heap.push { cls := .type "range",data := .fields #[.int i t,.int j t',.int k t2] }).objs.size],_,_,H1,rfl,I2.kept (t' := s1.toks) fun b o e => Heap.get?_push_of_some _ e,V8 _ i k n,?_,fun b hb => ?_,q⟩
        · have e1:i + ((0:Nat):Int) * k = i := by simp
          have e2:((n:Nat):Int) - ((0:Nat):Int) = Builtin.Range.rangeSize i j k := by rw [sz]; simp
          show IsRangeIter _ _ (i + ((0:Nat):Int) * k) (((n:Nat):Int) - ((0:Nat):Int)) k
          rw [e1,e2]
          exact Heap.get?_push_size _ rfl
        · have e:b = (s1.heap.push { cls := .type "range",data := .fields #[.int i t,.int j t',.int k t2] }).objs.size := by simpa using hb
          subst e
          exact I2.fpOk (Nat.le_refl _) (I2.hok.fresh (Nat.le_refl _))
end
section
variable {X:Cx}
noncomputable def za9 (K:PySem.W.Frag):List V → Hp → VK → Prop := fun xs H Q => ∃ d x,xs = [x] ∧ Rep K H d x ∧ (isDisplay d && !d.hasDict) = true ∧ d.showable = true ∧ d.depth ≤ 60 ∧ d.shown.length ≤ sizeLine ∧ Q (.str d.shown) H
theorem Qj (hg:X.A.guards = some []) (hu:X.A.units + 64 < cLine):y9 X (.builtin "repr") (za9 X.K) := by
  intro pins s σ H xs us Q I r h
  obtain ⟨d,x,rfl,h1,h2,h3,h4,h5,q⟩ := h
  rw [Bool.and_eq_true] at h2
  obtain ⟨h2,h0⟩ := h2
  obtain ⟨u,rfl,ru⟩ := r.one
  obtain ⟨as,rd⟩ := Rep.reads I d x u h1 ru
  obtain ⟨a,rfl⟩ := isRef_of_reads rd h2
  exact repr_of_reads' rd h3 (fun z => absurd z (by cases hz:d.hasDict <;> simp_all)) hg (by omega) (fun _ _ e => e) (fun h' u tk hk => ⟨.str d.shown,H,I.kept (t' := tk) hk,⟨u,rfl⟩,q⟩) h5
noncomputable def srt (ns:List Int):List Int := ns.mergeSort fun a b => decide (a ≤ b)
theorem zdI (ns:List Int):(srt ns).Pairwise (· ≤ ·) := by
  have h := List.pairwise_mergeSort (le := fun a b:Int => decide (a ≤ b)) (fun a b c h1 h2 => by simp at h1 h2 ⊢; omega) (fun a b => by simp; omega) ns
  exact h.imp fun h => by simpa using h
theorem XV:∀ {a b:List Int},a.Perm b → a.Pairwise (· ≤ ·) → b.Pairwise (· ≤ ·) → a = b
  | [],b,h,_,_ => by
    have := h.length_eq
    cases b with
    | nil => rfl
    | cons => cases this
  | x :: a,[],h,_,_ => by cases h.length_eq
  | x :: a,y :: b,h,ha,hb => by
    have e:x = y := by
      have h1:x ∈ y :: b := h.mem_iff.mp (List.mem_cons_self ..)
      have h2:y ∈ x :: a := h.mem_iff.mpr (List.mem_cons_self ..)
      have l1:x ≤ y := by
        rcases List.mem_cons.mp h2 with z | z
        · exact Int.le_of_eq z.symm
        · exact (List.pairwise_cons.mp ha).1 y z
      have l2:y ≤ x := by
        rcases List.mem_cons.mp h1 with z | z
        · exact Int.le_of_eq z.symm
        · exact (List.pairwise_cons.mp hb).1 x z
      omega
    subst e
    rw [XV (List.Perm.cons_inv h) (List.pairwise_cons.mp ha).2 (List.pairwise_cons.mp hb).2]
theorem JC {ns ns':List Int} (h1:ns'.Perm ns) (h2:ns'.Pairwise (· ≤ ·)):ns' = srt ns := XV (h1.trans (List.mergeSort_perm ns _).symm) h2 (zdI ns)
theorem UC (ns:List Int):(srt ns).length = ns.length := (List.mergeSort_perm ns _).length_eq
theorem j9:∀ {ns:List Int} {us:List Value},Vals (ns.map V.int) us → IntsAre us ns
  | [],_,h => by cases h; exact .nil
  | n :: ns,_,h => by
    cases h with
    | cons h1 h2 =>
      obtain ⟨t,rfl⟩ := h1
      exact .cons n t (j9 h2)
noncomputable def zba (K:PySem.W.Frag):List V → Hp → VK → Prop := fun xs H Q => ∃ a ns,xs = [.ref a] ∧ SqL K H a (ns.map V.int) ∧ ns.length < 64 ∧ ∀ p,H p = none → Q (.ref p) (upd H p (.lst ((srt ns).map V.int)))
theorem XW:y9 X (.builtin "sorted") (zba X.K) := by
  intro pins s σ H xs us Q I r h
  obtain ⟨a,ns,rfl,hq,hl,q⟩ := h
  obtain ⟨u,rfl,ru⟩ := r.one
  cases ru
  obtain ⟨its,rv,p,hz⟩ := I.list hq
  have hI := j9 rv
  have hlen := rv.length
  rw [List.length_map] at hlen
  refine sorted_ints p.isList hI (by omega) fun out ns' a1 a2 a3 => ?_
  obtain ⟨e,he⟩ := sortedAll_at s.heap its out
  have en := JC a2 a3
  subst en
  refine ⟨.ref (s.heap.objs.size + 1),_,I.laid (a := s.heap.objs.size + 1) (o := .lst ((srt ns).map V.int)) (t' := s.toks) (fun b o e => sortedAll_old e) (Nat.le_succ _) ⟨?_,out.toList,e,qm a1,?_⟩,rfl,q _ (I.hok.fresh (Nat.le_succ _))⟩
  · rw [List.length_map,UC,sizeLine_eq]; omega
  · rw [Array.toArray_toList]; exact he
noncomputable def Qk:List V → Hp → VK → Prop := fun xs H Q => ∃ a kvs ns,xs = [.ref a] ∧ H a = some (.dK kvs) ∧ kvs.map (·.1) = ns.map (Sum.inl:Int → Key) ∧ ns.length < 64 ∧ ∀ p,H p = none → Q (.ref p) (upd H p (.lst ((srt ns).map V.int)))
theorem XX (hc:X.calm = true):y9 X (.builtin "sorted") Qk := by
  intro pins s σ H xs us Q I r h
  obtain ⟨a,kvs,ns,rfl,e,hk,hl,q⟩ := h
  obtain ⟨u,rfl,ru⟩ := r.one
  cases ru
  obtain ⟨z,hd,vs,rel,dd⟩ := ZG I.hok e
  obtain ⟨ep,hat⟩ := dd.dictAt
  have kk := rel.keys
  rw [hk] at kk
  have hlen:ns.length = vs.length := by have := congrArg List.length kk; simpa using this
  refine zb5 (PySem.W.kdl_dict (knd := yP X.prog X.w) (kvs := vs) (ep := ep) hd) (I.ok.hd hc) hat (by rw [sizeLine_eq]; omega) (ns := ns) hlen (by omega) (fun j v hv => ?_) fun h1 h' tk out ns' e' a1 a2 a3 k1 k2 hp => ?_
  · obtain ⟨k,x,hx,hkv⟩ := hv
    have h2:(vs.map (·.1))[j]? = some k := by rw [List.getElem?_map,hx]; rfl
    rw [← kk,List.getElem?_map] at h2
    cases hn:ns[j]? with
    | none => rw [hn] at h2; cases h2
    | some i =>
      rw [hn] at h2
      have h3:(Sum.inl i:Key) = k := Option.some.inj h2
      subst h3
      rcases xu (k := Sum.inl i) (show jk (Sum.inl i) v = true from hkv) with ⟨i',t,e1,e2⟩ | ⟨x',t,e1,e2⟩
      · cases e1
        exact ⟨i,t,e2,rfl⟩
      · cases e1
  · have en := JC a2 a3
    subst en
    have I1:Inv X pins σ H { s with heap := h1 } := I.kept (t' := s.toks) k1
    refine ⟨.ref h1.objs.size,_,I1.laid (a := h1.objs.size) (o := .lst ((srt ns).map V.int)) (t' := tk) k2 (Nat.le_refl _) ⟨?_,out.toList,e',qm a1,?_⟩,rfl,q _ (I1.hok.fresh (Nat.le_refl _))⟩
    · rw [List.length_map,UC,sizeLine_eq]; omega
    · rw [Array.toArray_toList]; exact hp
noncomputable def vR (K:PySem.W.Frag) (H:Hp):List V → List (Key × V) → Prop := Paired fun y kv => ∃ t,y = .ref t ∧ SqT K H t [kV kv.1,kv.2]
theorem vR.get {K:PySem.W.Frag} {H:Hp}:∀ {ys:List V} {kvs:List (Key × V)} {j:Nat} {kv:Key × V},vR K H ys kvs → kvs[j]? = some kv → ∃ t,ys[j]? = some (.ref t) ∧ SqT K H t [kV kv.1,kv.2]
  | _,_,_,_,.nil,e => by simp at e
  | _,_,0,_,.cons r _,e => by
    simp at e
    subst e
    obtain ⟨t,rfl,h⟩ := r
    exact ⟨t,rfl,h⟩
  | _,_,j + 1,kv,.cons _ q,e => by
    obtain ⟨t,h1,h2⟩ := vR.get (j := j) (kv := kv) q (by simpa using e)
    exact ⟨t,by simpa using h1,h2⟩
theorem vR.snoc {K:PySem.W.Frag} {H:Hp} {y:V} {kv:Key × V} (hy:∃ t,y = .ref t ∧ SqT K H t [kV kv.1,kv.2]):∀ {ys:List V} {kvs:List (Key × V)},vR K H ys kvs → vR K H (ys ++ [y]) (kvs ++ [kv])
  | _,_,.nil => .cons hy .nil
  | _,_,.cons r q => .cons r (vR.snoc hy q)
theorem vR.keep {K:PySem.W.Frag} {H H':Hp} {ys:List V} {kvs:List (Key × V)} (h:vR K H ys kvs) (k:∀ b xs,SqT K H b xs → SqT K H' b xs):vR K H' ys kvs :=
  Paired.imp' (fun y kv ⟨t,e,q⟩ => ⟨t,e,k t _ q⟩) h
noncomputable def JD (K:PySem.W.Frag):List V → Hp → VK → Prop := fun xs H Q => ∃ a ys kvs,xs = [.ref a] ∧ SqL K H a ys ∧ vR K H ys kvs ∧ kvs.length ≤ 1000 ∧ ∀ p,H p = none → Q (.ref p) (upd H p (.dK (xG [] kvs)))
theorem Ql (hc:X.calm = true):y9 X (.type "dict") (JD X.K) := by
  intro pins s σ H xs us Q I r h
  obtain ⟨a,ys,kvs,rfl,hq,hp,hl,q⟩ := h
  obtain ⟨u,rfl,ru⟩ := r.one
  cases ru
  obtain ⟨its,rv,⟨o,n,e,c,hnd,dt⟩,hz⟩ := I.list hq
  have l1 := Paired.length hp
  have l2 := rv.length
  have hval:∃ ws:List (Key × Value),KV kvs ws ∧ ∀ (j:Nat) kv,ws[j]? = some kv → ∃ t key,its[j]? = some (.ref t) ∧ IsTup s.heap t #[key,kv.2] ∧ (yP X.prog X.w).is kv.1 key = true := by
    clear q dt e hz l1 l2 hq
    induction hp generalizing its with
    | nil => exact ⟨[],.nil,fun j kv hj => by simp at hj⟩
    | @cons y kv ys kvs hy t ih =>
      cases rv with
      | @cons _ w1 _ ws1 r1 r2 =>
        obtain ⟨ws,k1,k2⟩ := ih (by simp at hl; omega) _ r2
        obtain ⟨b,rfl,hb⟩ := hy
        cases r1
        obtain ⟨tt,rt,pt,_⟩ := I.tuple hb
        cases rt with
        | @cons _ key _ t1 rk t1r =>
          cases t1r with
          | @cons _ v _ t2 rv' t2r =>
            cases t2r
            refine ⟨(kv.1,v) :: ws,.cons ⟨rfl,rv'⟩ k1,fun j kv' hj => ?_⟩
            cases j with
            | zero =>
              cases hj
              obtain ⟨ot,e1,e2,_,e3⟩ := pt
              exact ⟨b,key,rfl,⟨ot,e1,e2,_,e3⟩,kP rk⟩
            | succ j =>
              obtain ⟨t',key',g1,g2,g3⟩ := k2 j kv' (by simpa using hj)
              exact ⟨t',key',by simpa using g1,g2,g3⟩
  obtain ⟨ws,k1,k2⟩ := hval
  have l3 := k1.length
  refine KO (knd := yP X.prog X.w) (I.ok.hd hc) e c dt hnd (more := ws) (by simp; omega) (fun j kv hj => ?_) (by rw [sizeLine_eq]; omega) fun h' tk dd kk => ?_
  · obtain ⟨t,key,g1,g2,g3⟩ := k2 j kv hj
    exact ⟨t,key,by simpa using g1,g2,g3⟩
  · refine ⟨.ref s.heap.objs.size,_,I.laid (a := s.heap.objs.size) (o := .dK (xG [] kvs)) (t' := tk) kk (Nat.le_refl _) ?_,rfl,q _ (I.hok.fresh (Nat.le_refl _))⟩
    have hz2:(xG [] kvs).length ≤ sizeLine := by
      have h1 := x6 kvs []
      rw [List.length_nil] at h1
      rw [sizeLine_eq]; omega
    exact j8 hz2 (beq_eq_false_iff_ne.mpr (Ne.symm (Nat.ne_of_lt I.big))) (KV.merge k1 .nil) dd
noncomputable def UD:V → List V → Hp → VK → Prop := fun x vs H Q => ∃ a b kvs more,x = .ref a ∧ vs = [.ref b] ∧ H a = some (.dK kvs) ∧ H b = some (.dK more) ∧ a ≠ b ∧ kvs.length + more.length ≤ 1000 ∧ Q .non (upd H a (.dK (xG kvs more)))
theorem qo:MtR X "dict.update" UD := by
  intro pins s σ H x xs v us Q I rx r h
  obtain ⟨a,b,kvs,more,rfl,rfl,e1,e2,hab,hl,q⟩ := h
  obtain ⟨u,rfl,ru⟩ := r.one
  cases ru
  cases rx
  obtain ⟨z1,hd1,vs,rel1,dd1⟩ := ZG I.hok e1
  obtain ⟨z2,hd2,ws,rel2,dd2⟩ := ZG I.hok e2
  have l1 := rel1.length
  have l2 := rel2.length
  have l3 := x6 more kvs
  refine call_meetsIn PySem.F.slot_dict_update dd1.typeIs PySem.F.entry_dict_update (PySem.F.args_dict_update_2 _ _) (meets_dict_update (yP X.prog X.w) a b hab hd2)
    ⟨vs,ws,dd1,dd2,(by rw [sizeLine_eq]; omega),fun h' dd' _ hs => ⟨.non,_,?_,rfl,q⟩⟩
  have he:∃ q,h'.get? a = some q := let ⟨q,_,_,hq,_⟩ := dd'; ⟨q,hq⟩
  exact kQ I (by rw [e1]; exact True.intro) hs he (j8 (by rw [sizeLine_eq]; omega) hd1 (KV.merge rel2 rel1) dd')
end
end L2
namespace L2
open PySem PySem.Spec PyProof.Rows
section
variable {X:Cx} {pos:Pos}
noncomputable def zbb (i j k:Nat) (ta:TA):TS := fun D σ H => ta σ H fun vs H1 => ∃ u v w,vs = [u,v,w] ∧ D.nx (((σ.set k (some w)).set j (some v)).set i (some u)) H1
theorem UE {i j k:Nat} {x y z:Str} {a b c:Expr} {ta:TA} {px py pz pt:Pos} {kt k2 pt2} (hc:X.calm = true) (hN:X.N.Nodup) (hi:X.N[i]? = some x) (hj:X.N[j]? = some y) (hk:X.N[k]? = some z)
    (hx:X.env.scope.names.lookup x = some .local) (hy:X.env.scope.names.lookup y = some .local) (hz:X.env.scope.names.lookup z = some .local) (ha:PA X [a,b,c] ta)
    (hw:swappedStores [.Tuple [.Name x px,.Name y py,.Name z pz] kt pt] (.Tuple [a,b,c] k2 pt2) X.env = pure (some [x,y,z]))
    (hs:swapsWithSole [.Tuple [.Name x px,.Name y py,.Name z pz] kt pt] (.Tuple [a,b,c] k2 pt2) pos.line X.env = pure false := by rfl) :
    PS X (.Assign [.Tuple [.Name x px,.Name y py,.Name z pz] kt pt] (.Tuple [a,b,c] k2 pt2) pos) (zbb i j k ta) := by
  intro pins s σ H D I h
  rw [exec_Assign_arm]
  refine wpAny_bind (wpAny_standAt ?_)
  rw [hs]
  refine wpAny_bind (wpAny_pure ?_)
  rw [if_neg (by decide)]
  refine wpAny_bind (Tuple_ (thn (ha _ pins s σ H _ I h) fun us s1 ⟨vs,H1,I1,r1,q1⟩ => ?_))
  obtain ⟨u,v,w,e1,q1⟩ := q1
  subst e1
  obtain ⟨u1,u2,u3,rfl,ru,rv,rw'⟩:∃ u1 u2 u3,us = [u1,u2,u3] ∧ RelV u u1 ∧ RelV v u2 ∧ RelV w u3 := by
    cases r1 with
    | cons p q =>
      cases q with
      | cons p' q' =>
        cases q' with
        | cons p2 q2 =>
          cases q2
          exact ⟨_,_,_,rfl,p,p',p2⟩
  refine wpAny_newObj_type ?_ (by show 3 ≤ sizeLine; decide)
  have I2:Inv X pins σ H1 { s1 with heap := s1.heap.push { cls := .type "tuple",data := .seq [u1,u2,u3].toArray } } := I1.kept (t' := s1.toks) fun b o e => Heap.get?_push_of_some _ e
  rw [hw]
  refine wpAny_bind (wpAny_pure ?_)
  show wpAny (model X.prog X.w) X.A (do rule "assign.swapped-stores"; let items ← unpackItems (.ref s1.heap.objs.size) 3 none; assignInOrder [fun v => bindName X.env z v,fun v => bindName X.env y v,fun v => bindName X.env x v] items.reverse; pure Flow.next) _ _ _
  refine wpAny_bind (wpAny_rule (wpAny_bind (unpackItems_tuple (items := #[u1,u2,u3]) (I.ok.hd hc) (IsTup.new s1.heap _) fun h' hx' => ?_)))
  have I3 := I2.kept (h' := h') (t' := s1.toks) fun b o e => hx' b o (Nat.ne_of_lt (Heap.lt_size e)) e
  show wpAny _ _ (assignInOrder [fun v => bindName X.env z v,fun v => bindName X.env y v,fun v => bindName X.env x v] [u3,u2,u1] >>= fun _ => pure Flow.next) _ _ _
  refine wpAny_bind (assignInOrder_cons (wpAny_bindName (vS I3 hN hk (.inl hz) rw' (fun s2 I4 => ?_) (.inr hz))))
  refine assignInOrder_cons (wpAny_bindName (vS I4 hN hj (.inl hy) rv (fun s3 I5 => ?_) (.inr hy)))
  refine assignInOrder_cons (wpAny_bindName (vS I5 hN hi (.inl hx) ru (fun s4 I6 => assignInOrder_nil (wpAny_pure ?_)) (.inr hx)))
  exact ⟨_,H1,I6,q1⟩
end
structure CalM (P:Program) (w:World) (K:PySem.W.Frag) (mg:Str → Option Value) (base:Heap) (k:Nat) (x:Str) (C:Addr) (sp:Sp):Prop where
  ex:∃ (f:Addr) (fd:FuncData) (ps:List Str),Mk K C f ∧ FnOk P w K mg base CX0 k f fd ps sp ∧ mg x = some (.ref C) ∧ Binds K fd ps []
section
variable {X:Cx} {k:Nat} {sp:Sp} {C:Addr} {x:Str} {p pos:Pos} {e:Expr} {es:List Expr} {t:TA}
theorem zdJ (c:CalM X.prog X.w X.K X.mg X.base k x C sp) (hr:Room (k + 1) X.A) (hg:Gl X x) (ha:PA X (e :: es) t) (hdb:(x == ("__debug__":Str)) = false := by decide)
    (he:starEach (e :: es) X.env = (false,eval e X.env) :: starEach es X.env := by rfl) (hpl:(backTo pos (starEach es X.env)).any (·.1) = false := by rfl):PE X (.Call (.Name x p) (e :: es) [] pos) (Qb C sp [] E0 t) := by
  obtain ⟨f,fd,ps,M,F,hm,hb⟩ := c.ex
  exact zbV M F hr hg hm hb .nil Qf ha hdb he hpl
end
noncomputable def Itf (f:Nat → Int) (n:Nat):It := ⟨fun i _ => i < n,fun i H x H' => H' = H ∧ x = .int (f i),fun i _ => n ≤ i⟩
noncomputable def LcF (n0:Nat) (f:Nat → Int) (g:TG) (tt:TT) (te:TE) (σ0:St) (H1:Hp) (Q:VK):Prop := ∀ D,H1 D = none → ∃ W:Nat → Nat → St → Hp → Prop,(∃ m,W 0 m σ0 (upd H1 D (.lst []))) ∧ ∀ i m σ' H',W i m σ' H' →
  ((Itf f n0).stop i H' ∧ Q (.ref D) H') ∨ ((Itf f n0).go i H' ∧ ∃ Nx:St → Hp → Prop,(∀ σ2 H2,Nx σ2 H2 → ∃ m',m' < m ∧ W (i + 1) m' σ2 H2) ∧
    ∀ x H2,(Itf f n0).yld i H' x H2 → g x σ' H2 fun σ3 H3 => tt σ3 H3 fun ok H4 => if ok = true then te σ3 H4 fun y H5 => ∃ ys,H5 D = some (.lst ys) ∧ ys.length < sizeLine ∧ Nx σ3 (upd H5 D (.lst (ys ++ [y]))) else Nx σ3 H4)
theorem LcF.by {n0:Nat} {f:Nat → Int} {g:TG} {tt:TT} {te:TE} {σ0:St} {H1:Hp} {Q:VK} (Pv:Addr → Nat → St → Hp → Prop) (h0:∀ D,H1 D = none → Pv D 0 σ0 (upd H1 D (.lst [])))
    (hs:∀ D i σ H,H1 D = none → i < n0 → Pv D i σ H → g (.int (f i)) σ H fun σ3 H3 => tt σ3 H3 fun ok H4 => if ok = true then te σ3 H4 fun y H5 => ∃ ys,H5 D = some (.lst ys) ∧ ys.length < sizeLine ∧ Pv D (i + 1) σ3 (upd H5 D (.lst (ys ++ [y]))) else Pv D (i + 1) σ3 H4)
    (hd:∀ D σ H,H1 D = none → Pv D n0 σ H → Q (.ref D) H):LcF n0 f g tt te σ0 H1 Q := by
  intro D hD
  refine ⟨fun i m σ H => m = n0 - i ∧ i ≤ n0 ∧ Pv D i σ H,⟨n0,by simp,Nat.zero_le _,h0 D hD⟩,?_⟩
  rintro i m σ H ⟨rfl,hi,p⟩
  by_cases hlt:i < n0
  · refine .inr ⟨hlt,Pv D (i + 1),fun σ' H' p' => ⟨n0 - (i + 1),by omega,rfl,hlt,p'⟩,fun x H' y => ?_⟩
    obtain ⟨e,y⟩ := y
    subst e y
    exact hs D i σ _ hD hlt p
  · have e:i = n0 := by omega
    subst e
    exact .inl ⟨Nat.le_refl _,hd D σ H hD p⟩
end L2
namespace L2
open PySem PySem.Spec PyProof.Rows
theorem kR {X:Cx} {x:Str} {i:Int} {pos:Pos} (hg:Gl X x) (h:∃ t,X.mg x = some (.int i t)) (hd:(x == ("__debug__":Str)) = false := by decide):PE X (.Name x pos) (tC (.int i)) := by
  obtain ⟨t,e⟩ := h
  exact kK hg e ⟨t,rfl⟩ hd
noncomputable def zbc (K:PySem.W.Frag) (a:Addr) (g:TG) (tb:TS) (D:Ends) (σ:St) (H:Hp):Prop := ∃ W:Nat → Nat → St → Hp → Prop,(∃ m,W 0 m σ H) ∧ ∀ i m σ H,W i m σ H →
  ((Itt K a).stop i H ∧ D.nx σ H) ∨ ((Itt K a).go i H ∧ ∃ N:St → Hp → Prop,(∀ σ' H',N σ' H' → ∃ m',m' < m ∧ W (i + 1) m' σ' H') ∧ ∀ x H',(Itt K a).yld i H x H' → g x σ H' fun σ2 H2 => tb { D with nx := N,ct := N,bk := D.nx } σ2 H2)
theorem zbc.run {K:PySem.W.Frag} {a:Addr} {xs:List V} {g:TG} {tb:TS} {D:Ends} {σ:St} {H:Hp} (Pv:Nat → St → Hp → Prop) (h0:Pv 0 σ H) (hl:∀ i σ H,i ≤ xs.length → Pv i σ H → SqT K H a xs)
    (hs:∀ i x σ H,xs[i]? = some x → Pv i σ H → ∀ R:St → Hp → Prop,(∀ σ' H',Pv (i + 1) σ' H' → R σ' H') → g x σ H fun σ2 H2 => tb { D with nx := R,ct := R,bk := D.nx } σ2 H2) (hd:∀ σ H,Pv xs.length σ H → D.nx σ H):zbc K a g tb D σ H :=
  zbP Pv h0 hl (fun i x σ H hi p => hs i x σ H hi p _ fun _ _ z => z) hd
end L2
namespace L2
open PySem PySem.Spec PyProof.Rows
noncomputable def cE:Expr → Option V
  | .Constant (.int i) _ _ => some (.int i)
  | .Constant .none _ _ => some .non
  | .Constant (.bool b) _ _ => some (.bl b)
  | .Constant (.str x) _ _ => some (.str x)
  | _ => none
noncomputable def Qm:List Expr → Option (List V)
  | [] => some []
  | e :: es => match cE e,Qm es with
    | some v,some vs => some (v :: vs)
    | _,_ => none
noncomputable def tCs (vs:List V):TA := fun _ H Q => Q vs H
theorem zeX {X:Cx} {e:Expr} {v:V} (h:cE e = some v):PE X e (tC v) := by
  unfold cE at h
  split at h
  · cases h; exact za
  · cases h; exact yJ
  · cases h; exact xH
  · cases h; exact zg
  · cases h
theorem zb7 {e:Expr} {v:V} (h:cE e = some v):XR e = true := by
  unfold cE at h
  split at h <;> first | rfl | cases h
theorem JE {X:Cx}:∀ {es:List Expr} {vs:List V},Qm es = some vs → QA X es (tCs vs)
  | [],vs,h => by
    cases h
    exact qn
  | e :: es,vs,h => by
    simp only [Qm] at h
    split at h
    · rename_i v ws h1 h2
      cases h
      exact qc (zeX h1) (JE h2) (zb7 h1)
    · cases h
theorem kS {X:Cx} {es:List Expr} {vs:List V} {pos:Pos} (h:Qm es = some vs):PE X (.List es pos) (XH (tCs vs)) := xx (JE h)
end L2
namespace L2
open PySem PySem.W PySem.Calls PyProof.Rows
section
variable {X:Cx}
end
end L2
namespace PySem
open PySem PySem.W PySem.Calls PyProof.Rows
section
variable {prog:Program} {w:World} {A:Around} {R:Result → Shared → Prop} {I S:Addr} {fp wr:List Addr} {n:Nat} {P:Nat → Value → Prop} {St:Nat → Heap → Prop}
end
end PySem
namespace L2
open PySem PySem.W PySem.Calls PyProof.Rows
section
variable {X:Cx} {x:Str} {p pos:Pos} {e:Expr} {es:List Expr} {kws:List Keyword} {ks:List Str} {t tk:TA} {id:String} {r:List V → List V → Hp → VK → Prop}
end
end L2
namespace L2
open PySem PySem.Spec PyProof.Rows
structure CalT (P:Program) (w:World) (K:PySem.W.Frag) (mg:Str → Option Value) (base:Heap) (k:Nat) (m:Str) (C:Addr) (sp:Sp):Prop where
  ex:∃ (f:Addr) (fd:FuncData) (ps:List Str),Cls K C ∧ Meth K C m f ∧ FnOk P w K mg base CX0 k f fd ps sp ∧ Binds K fd ps []
section
variable {X:Cx} {k:Nat} {sp:Sp} {C:Addr} {m:Str} {apos pos:Pos} {o e:Expr} {es:List Expr} {ta:TE} {t:TA}
theorem zb8 {pl:Sem Bool} (c:CalT X.prog X.w X.K X.mg X.base k m C sp) (hr:Room k X.A) (he:PE X o ta)
    (ht:eval (.Call (.Attribute o m apos) [] [] pos) X.env = (do
      let ov ← eval o X.env
      standAt apos.atName
      let (f,first) ← holding [ov] (getMethod ov m pl)
      callWith pos f first (backTo pos (starEach [] X.env)) (backToKw pos (keywordEach [] X.env))) := by rfl):PE X (.Call (.Attribute o m apos) [] [] pos) (Qa C m sp [] E0 ta j4) := by
  obtain ⟨f,fd,ps,c,M,F,hb⟩ := c.ex
  exact Ku (pl := pl) he c M F hr hb .nil Qf ht
end
end L2
namespace L2
open PySem PySem.Spec PyProof.Rows
structure SV where
  wide:Int
  high:Int
  row:Int
  col:Int
  late:Bool
  ink:Int
  wrap:Bool
  putting:Bool
  home:Bool
  top:Int
  bottom:Int
  left:Int
  right:Int
  last:V
section
variable {p st kp:Addr} {S:SV}
end
structure Sta (K:PySem.W.Frag) (C:Addr):Prop where
  cl:Cls K C
  n_picture:NoAttr K C "picture"
  n_wide:NoAttr K C "wide"
  n_high:NoAttr K C "high"
  n_row:NoAttr K C "row"
  n_column:NoAttr K C "column"
  n_late:NoAttr K C "late"
  n_ink:NoAttr K C "ink"
  n_wrap:NoAttr K C "wrap"
  n_putting:NoAttr K C "putting"
  n_home:NoAttr K C "home"
  n_top:NoAttr K C "top"
  n_bottom:NoAttr K C "bottom"
  n_left:NoAttr K C "left"
  n_right:NoAttr K C "right"
  n_stops:NoAttr K C "stops"
  n_kept:NoAttr K C "kept"
  n_last:NoAttr K C "last"
section
variable {sl:Addr} {S:SV}
end
noncomputable def JF (td ty:TE):TE := fun σ H Q => td σ H fun x H1 => ty σ H1 fun y H2 => ∃ a kvs k v,x = .ref a ∧ H2 a = some (.dK kvs) ∧ y = kV k ∧ vM kvs k = some v ∧ Q v H2
noncomputable def JG (td ty tv:TE):TS := fun D σ H => tv σ H fun v H1 => td σ H1 fun x H2 => ty σ H2 fun y H3 => ∃ a kvs k,x = .ref a ∧ H3 a = some (.dK kvs) ∧ y = kV k ∧ kvs.length < 1000 ∧ D.nx σ (upd H3 a (.dK (x0 kvs k v)))
section
variable {X:Cx} {o i value:Expr} {td ty tv:TE} {pos pos':Pos}
theorem PE.cl {e:Expr} {t:TE} (h:PE X e t):PE X e (fun σ H Q => ∃ Q':VK,t σ H Q' ∧ ∀ x H1,Q' x H1 → Q x H1) := fun pins s σ H Q I ⟨Q',q,w⟩ =>
  thn (h pins s σ H Q' I q) fun v s1 ⟨x,H1,I1,r1,q1⟩ => ⟨x,H1,I1,r1,w x H1 q1⟩
theorem zj (hu:X.A.units + 1 < cLine) (ho:PE X o td) (hi:PE X i ty) (hs:KL i):PE X (.Subscript o i pos) (JF td ty) := fun pins s σ H Q I h =>
  (zb3 hu ho.cl hi.cl hs) pins s σ H Q I ⟨_,h,fun x H1 h1 => ⟨_,h1,fun y H2 ⟨a,kvs,k,v,e1,e2,e3,e4,q⟩ => ⟨a,v,e1,by rw [e3,← e4]; exact j7.k e2,q⟩⟩⟩
theorem xy (hu:X.A.units + 1 < cLine) (ho:PE X o td) (hi:PE X i ty) (hv:PE X value tv) (hs:swapsWith value (some (.Subscript o i pos')) pos.line X.env = pure false) :
    PS X (.Assign [.Subscript o i pos'] value pos) (JG td ty tv) := fun pins s σ H D I h =>
  (zb4 hu ho.cl hi.cl hv.cl hs) pins s σ H D I ⟨_,h,fun v H1 h1 => ⟨_,h1,fun x H2 h2 => ⟨_,h2,fun y H3 ⟨a,kvs,k,e1,e2,e3,e4,q⟩ => ⟨a,_,e1,by rw [e3]; exact Zo.k e2 (vh (by omega)),q⟩⟩⟩⟩
end
end L2
namespace L2
open PySem PySem.Spec PyProof.Rows
noncomputable def Sh (i:Int):Prop := -1000000 ≤ i ∧ i ≤ 1000000
theorem YW {K:PySem.W.Frag} {H:Hp}:∀ ns:List Int,Reps K H (ns.map .int) (ns.map V.int)
  | [] => rfl
  | n :: ns => ⟨_,_,rfl,rfl,YW ns⟩
theorem Sh.log {i:Int} (h:Sh i):i.natAbs.log2 < 20 := by
  obtain ⟨h1,h2⟩ := h
  by_cases h0:i.natAbs = 0
  · rw [h0]; decide
  · exact (Nat.log2_lt h0).mpr (by omega)
theorem Sh.w {i:Int} (h:Sh i):PyData.weight (.int i) ≤ 21 := by
  have := h.log
  simp only [PyData.weight]
  split <;> omega
theorem JH:∀ {ns:List Int},(∀ n ∈ ns,Sh n) → PyData.weightAll (ns.map .int) ≤ 22 * ns.length
  | [],_ => by simp [PyData.weightAll]
  | n :: ns,h => by
    have h1 := (h n (by simp)).w
    have h2 := JH (ns := ns) fun m hm => h m (by simp [hm])
    simp only [List.map_cons,PyData.weightAll,List.length_cons]
    omega
theorem UF:∀ {ns:List Int},(∀ n ∈ ns,Sh n) → PyData.showableAll (ns.map .int) = true
  | [],_ => by simp [PyData.showableAll]
  | n :: ns,h => by
    have h1 := (h n (by simp)).log
    have h2 := UF (ns := ns) fun m hm => h m (by simp [hm])
    simp only [List.map_cons,PyData.showableAll,PyData.showable,h2,Bool.and_true,decide_eq_true_eq]
    omega
theorem Sh.short {i:Int} (h:Sh i):PyData.intsShort 13 (.int i) = true := by
  obtain ⟨h1,h2⟩ := h
  have q:(toString i).length ≤ 7 + 1 := int_text_length_le10 (by decide) (show i.natAbs < 10 ^ 7 by omega)
  have e:(PyData.int i).shown.length = (toString i).length := by
    simp only [PyData.shown]
    exact PySem.ofString_length _
  simp only [PyData.intsShort,decide_eq_true_eq]
  omega
theorem ZJ:∀ {ns:List Int},(∀ n ∈ ns,Sh n) → PyData.intsShortAll 13 (ns.map .int) = true
  | [],_ => by simp [PyData.intsShortAll]
  | n :: ns,h => by
    have h1 := (h n (by simp)).short
    have h2 := ZJ (ns := ns) fun m hm => h m (by simp [hm])
    simp only [List.map_cons,PyData.intsShortAll,h1,h2,Bool.and_self]
theorem XY:∀ {ns:List Int},PyData.canLayAll0 (ns.map .int) = true
  | [] => by simp [PyData.canLayAll0]
  | n :: ns => by simp [PyData.canLayAll0,PyData.canLay0,XY (ns := ns)]
theorem XZ:∀ {ns:List Int},PyData.depthAll (ns.map .int) ≤ 1
  | [] => by simp [PyData.depthAll]
  | n :: ns => by
    have := XZ (ns := ns)
    simp [PyData.depthAll,PyData.depth]
    omega
theorem zdK {a b c d f h i j k:Int} {e g g2 g3:Bool} {ns:List Int} (ha:Sh a) (hb:Sh b) (hc:Sh c) (hd:Sh d) (hf:Sh f) (hh:Sh h) (hi:Sh i) (hj:Sh j) (hk:Sh k) (hn:∀ n ∈ ns,Sh n) (hl:ns.length < 64) :
    let D:PyData := .list [.int a,.int b,.int c,.int d,.bool e,.int f,.bool g,.bool g2,.bool g3,.int h,.int i,.int j,.int k,.list (ns.map .int)]
    D.showable = true ∧ D.depth ≤ 60 ∧ D.shown.length ≤ sizeLine := by
  intro D
  have e1:D.showable = true := by
    have q := UF hn
    have l1 := ha.log; have l2 := hb.log; have l3 := hc.log; have l4 := hd.log; have l5 := hf.log; have l6 := hh.log; have l7 := hi.log; have l8 := hj.log; have l9 := hk.log
    simp only [D,PyData.showable,PyData.showableAll,q,Bool.and_true,Bool.true_and,Bool.and_eq_true,decide_eq_true_eq]
    omega
  have e2:D.depth ≤ 60 := by
    have q := XZ (ns := ns)
    simp only [D,PyData.depth,PyData.depthAll]
    omega
  refine ⟨e1,e2,?_⟩
  have e3:D.intsShort 13 = true := by
    simp only [D,PyData.intsShort,PyData.intsShortAll,ZJ hn,Bool.and_true,Bool.true_and]
    have := ha.short; have := hb.short; have := hc.short; have := hd.short; have := hf.short; have := hh.short; have := hi.short; have := hj.short; have := hk.short
    simp only [PyData.intsShort] at *
    simp only [*,Bool.and_self]
  have e4:PyData.layable0 D = true := by
    have w1 := ha.w; have w2 := hb.w; have w3 := hc.w; have w4 := hd.w; have w5 := hf.w; have w6 := hh.w; have w7 := hi.w; have w8 := hj.w; have w9 := hk.w
    have w0 := JH hn
    have q1:PyData.canLay0 D = true := by simp only [D,PyData.canLay0,PyData.canLayAll0,XY,Bool.and_self]
    have q2:PyData.weight D ≤ 2 ^ 20 := by
      have e20:(2:Nat) ^ 20 = 1048576 := by decide
      have u1:∀ b,PyData.weight (.bool b) = 0 := fun _ => rfl
      have u2:PyData.weight (.list (ns.map .int)) = PyData.weightAll (ns.map .int) := by simp only [PyData.weight]
      have u3:PyData.weight D = PyData.weightAll [.int a,.int b,.int c,.int d,.bool e,.int f,.bool g,.bool g2,.bool g3,.int h,.int i,.int j,.int k,.list (ns.map .int)] := by simp only [D,PyData.weight]
      rw [u3]
      simp only [PyData.weightAll]
      simp only [u1,u2]
      omega
    show (PyData.canLay0 D && decide (PyData.depth D ≤ 64) && decide (PyData.weight D ≤ 2 ^ 20)) = true
    rw [q1,decide_eq_true (show PyData.depth D ≤ 64 by omega),decide_eq_true q2]
    rfl
  exact Nat.le_trans (shown_le13 e4 e3) (by rw [sizeLine_eq]; decide)
end L2
namespace L2
open PySem PySem.Spec PyProof.Rows
noncomputable def DK (K:PySem.W.Frag) (a:Addr) (D:List (Int × Int)):Prop := KTD.keyedLook (fun b => K.lookup b) a (D.map fun p => (p.1,PyData.int p.2)) = true
noncomputable def xU (D:List (Int × Int)) (k:Int):Option Int := match D with
  | [] => none
  | (i,d) :: r => if k = i then some d else xU r k
theorem Ze (k:Int):∀ D:List (Int × Int),KTD.datumAt k (D.map fun p => (p.1,PyData.int p.2)) = (xU D k).map PyData.int
  | [] => rfl
  | (i,d) :: D => by
    have ih := Ze k D
    show (if decide (k = i) = true then some (PyData.int d) else KTD.datumAt k (D.map fun p => (p.1,PyData.int p.2))) = ((if k = i then some d else xU D k).map PyData.int)
    by_cases h:k = i
    · rw [if_pos (decide_eq_true h),if_pos h,Option.map_some]
    · rw [if_neg (by simpa using h),if_neg h,ih]
noncomputable def Qn (K:PySem.W.Frag) (to:TE) (t:TA):TE := fun σ H Q => to σ H fun x H1 => ∃ a D,x = .ref a ∧ DK K a D ∧ t σ H1 fun xs H2 => ∃ i d,xs = [.int i,.int d] ∧ Q (.int ((xU D i).getD d)) H2
theorem zb9 {X:Cx} {o e:Expr} {es:List Expr} {to:TE} {t:TA} {apos cpos:Pos} (ho:PE X o to) (ha:PA X (e :: es) t)
    (hbase:attributeBase o "get" X.env (eval o X.env) = eval o X.env := by rfl)
    (hfew:((backTo cpos (starEach (e :: es) X.env)).all (fun x => !x.1) && (backToKw cpos (keywordEach [] X.env)).all (fun x => x.1.isSome)
      && decide ((e :: es).length + ([]:List Keyword).length + (if ([]:List Keyword).isEmpty then 0 else 1) < 30)) = true := by rfl)
    (hline:(apos.endLine == cpos.line) = true := by rfl) (hs:starEach (e :: es) X.env = (false,eval e X.env) :: starEach es X.env := by rfl) (hplain:(backTo cpos (starEach es X.env)).any (·.1) = false := by rfl) :
    PE X (.Call (.Attribute o "get" apos) (e :: es) [] cpos) (Qn X.K to t) := by
  intro pins s σ H Q I h
  refine wpAny_Call_method_late hbase hfew hline rfl (thn (ho pins s σ H _ I h) fun v s1 ⟨x,H1,I1,r1,a,D,ex,hD,q1⟩ => ?_)
  subst ex
  cases r1
  have KD := KTD.keyed_of_look (h := s1.heap) (fun b o q => I1.kIn b o q) hD
  obtain ⟨_,kvs,⟨ob,bs,ep,hob,hc,_⟩,_⟩ := id (KD X.prog X.w)
  refine ⟨"dict","dict.get",PySem.F.plainAttrs_dict,PySem.F.slot_dict_get,PySem.F.type_dict_get,⟨ob,hob,hc.1⟩,fun b e => by injection e with e; subst e; exact ⟨ob,hob,hc.2.1⟩,?_⟩
  have hA := ha cpos pins s1 σ H1 _ I1 q1
  rw [hs] at hA ⊢
  refine Calls.callWith_builtin (by show (false || (backTo cpos (starEach es X.env)).any (·.1)) = false; rw [hplain] <;> rfl) (Calls.evalArgs_plain ?_)
  refine thn hA fun us s2 ⟨vs,H2,I2,r2,i,d,ev,q2⟩ => ?_
  subst ev
  obtain ⟨u1,u2,rfl,h1,h2⟩ := r2.two
  obtain ⟨t1,rfl⟩ := h1
  obtain ⟨t2,rfl⟩ := h2
  have KD2 := KTD.keyed_of_look (h := s2.heap) (fun b o q => I2.kIn b o q) hD
  refine call_get2_intTab (KD2 X.prog X.w) (.int d t2) fun v hv => ?_
  rw [KTD.lookup_keyed,Ze] at hv
  have hv':PyProof.V.Flat v (PyData.int ((xU D i).getD d)) := by
    cases e:xU D i with
    | none => rw [e] at hv; exact hv
    | some z => rw [e] at hv; exact hv
  generalize (xU D i).getD d = z at hv' q2
  cases hv' s2.heap with
  | int _ t => exact ⟨.int _,H2,I2.tok _,⟨t,rfl⟩,q2⟩
end L2
namespace L2
open PySem PySem.Spec PyProof.Rows
inductive W where
  | d (x:PyData)
  | own (a:Addr)
  | row (a:Addr) (i:Nat)
inductive OO where
  | lst (ws:List W)
  | dK (kvs:List (Key × W))
  | ins (C dx:Addr) (fs:List (Str × W))
  | grid (rows:List (List PyData))
  | raw (p:HO → Hp → Prop)
noncomputable abbrev OM := Addr → Option OO
noncomputable def updO (O:OM) (a:Addr) (o:OO):OM := fun b => if b = a then some o else O b
noncomputable def del (O:OM) (a:Addr):OM := fun b => if b = a then none else O b
theorem ze {O:OM} {a:Addr} {o:OO}:updO O a o a = some o := by simp [updO]
theorem zf {O:OM} {a b:Addr} {o:OO} (h:b ≠ a):updO O a o b = O b := by simp [updO,h]
theorem x3 {O:OM} {a:Addr}:del O a a = none := by simp [del]
theorem x8 {O:OM} {a b:Addr} (h:b ≠ a):del O a b = O b := by simp [del,h]
theorem zt {O:OM} {a:Addr} {o u:OO}:updO (updO O a o) a u = updO O a u := by
  funext b; unfold updO; split <;> rfl
structure Gh where
  Z:Hp
  G:Addr → Option (List Addr)
  F:Hp
structure Le (Γ Γ':Gh):Prop where
  f:Γ'.F = Γ.F
  z:Same Γ.Z Γ'.Z
  g:∀ a rs,Γ.G a = some rs → ∃ more,Γ'.G a = some (rs ++ more)
theorem Le.refl (Γ:Gh):Le Γ Γ := ⟨rfl,Same.refl _,fun _ rs h => ⟨[],by rw [List.append_nil]; exact h⟩⟩
theorem Le.trans {Γ Γ1 Γ2:Gh} (a:Le Γ Γ1) (b:Le Γ1 Γ2):Le Γ Γ2 := ⟨b.f.trans a.f,a.z.trans b.z,fun x rs h => by
  obtain ⟨m,h1⟩ := a.g x rs h
  obtain ⟨m2,h2⟩ := b.g x _ h1
  exact ⟨m ++ m2,by rw [← List.append_assoc]; exact h2⟩⟩
theorem Le.zOnly {Γ:Gh} {Z:Hp} (h:Same Γ.Z Z):Le Γ ⟨Z,Γ.G,Γ.F⟩ := ⟨rfl,h,fun _ rs h => ⟨[],by rw [List.append_nil]; exact h⟩⟩
section
variable (K:PySem.W.Frag)
noncomputable def relW (Γ:Gh):W → V → Prop
  | .d x,v => Rep K Γ.Z x v
  | .own a,v => v = .ref a
  | .row a i,v => ∃ rs r,Γ.G a = some rs ∧ rs[i]? = some r ∧ v = .ref r
noncomputable abbrev relWs (Γ:Gh):List W → List V → Prop := Paired (relW K Γ)
noncomputable def jr (Γ:Gh):Option W → Option V → Prop
  | some w,some v => relW K Γ w v
  | none,_ => True
  | _,_ => False
noncomputable abbrev relR (Γ:Gh):List (Option W) → St → Prop := Paired (jr K Γ)
noncomputable def yZ {κ:Type} (Γ:Gh):List (κ × W) → List (κ × V) → Prop := Paired fun p q => p.1 = q.1 ∧ relW K Γ p.2 q.2
noncomputable def ObjW (Γ:Gh) (O:OM) (H:Hp) (a:Addr):OO → Prop
  | .lst ws => ∃ vs,H a = some (.lst vs) ∧ relWs K Γ ws vs
  | .dK kvs => ∃ vs,H a = some (.dK vs) ∧ yZ K Γ kvs vs
  | .ins C dx fs => ∃ vs,H a = some (.ins C dx vs) ∧ yZ K Γ fs vs
  | .grid rows => ∃ rs,Γ.G a = some rs ∧ H a = some (.lst (rs.map V.ref)) ∧ rs.length = rows.length ∧ rs.Nodup ∧
      ∀ (i:Nat) (r:Addr) (ds:List PyData),rs[i]? = some r → rows[i]? = some ds → Γ.Z r = none ∧ O r = none ∧ ∃ vs,H r = some (.lst vs) ∧ Reps K Γ.Z ds vs
  | .raw p => ∃ o,H a = some o ∧ ∀ Z,Same Γ.Z Z → p o Z
structure Sim (Γ:Gh) (O:OM) (H:Hp):Prop where
  z:Same Γ.Z H
  o:∀ a oo,O a = some oo → Γ.Z a = none ∧ ObjW K Γ O H a oo
  gd:∀ a rs,Γ.G a = some rs → ∃ o,H a = some o
  f:Same Γ.F H
  gn:∀ a oo,O a = some oo → (∀ rows,oo ≠ .grid rows) → Γ.G a = none
  fg:∀ a o,Γ.F a = some o → Γ.G a = none
  fd:∀ a o,Γ.F a = some o → Γ.Z a = none ∧ O a = none ∧ ∀ b rows rs,O b = some (.grid rows) → Γ.G b = some rs → a ∉ rs
  u:∀ a b ra rb rs ss r,O a = some (.grid ra) → O b = some (.grid rb) → Γ.G a = some rs → Γ.G b = some ss → r ∈ rs → r ∈ ss → a = b
end
section
variable {K:PySem.W.Frag} {Γ Γ':Gh} {O:OM} {H H':Hp}
theorem relW.mono (h:Le Γ Γ'):∀ {w:W} {v:V},relW K Γ w v → relW K Γ' w v
  | .d x,v,r => Rep.same h.z x v r
  | .own a,v,r => r
  | .row a i,v,⟨rs,r,e,f,g⟩ => by
    obtain ⟨m,e'⟩ := h.g _ _ e
    have hi:i < rs.length := (List.getElem?_eq_some_iff.mp f).1
    exact ⟨rs ++ m,r,e',by rw [List.getElem?_append_left hi]; exact f,g⟩
theorem relWs.mono (h:Le Γ Γ') {ws:List W} {vs:List V} (r:relWs K Γ ws vs):relWs K Γ' ws vs := Paired.mapP r fun _ _ z => z.mono h
theorem jr.mono (h:Le Γ Γ'):∀ {w:Option W} {v:Option V},jr K Γ w v → jr K Γ' w v
  | some w,some v,r => relW.mono h r
  | none,_,_ => trivial
  | some _,none,r => r.elim
theorem relR.mono (h:Le Γ Γ') {ρ:List (Option W)} {σ:St} (r:relR K Γ ρ σ):relR K Γ' ρ σ := Paired.mapP r fun _ _ z => z.mono h
theorem yZ.mono {κ:Type} (h:Le Γ Γ') {a:List (κ × W)} {b:List (κ × V)} (r:yZ K Γ a b):yZ K Γ' a b := Paired.mapP r fun _ _ z => ⟨z.1,z.2.mono h⟩
theorem relR.get {ρ:List (Option W)} {σ:St}:∀ {i:Nat} {w:W},relR K Γ ρ σ → ρ[i]? = some (some w) → ∃ v,σ[i]? = some (some v) ∧ relW K Γ w v := by
  intro i w r
  induction r generalizing i with
  | nil => intro e; simp at e
  | cons h t ih =>
    rename_i x y xs ys
    intro e
    cases i with
    | zero =>
      simp at e
      subst e
      cases y with
      | none => exact h.elim
      | some v => exact ⟨v,rfl,h⟩
    | succ i => simpa using ih (i := i) (by simpa using e)
theorem Paired.getP {α β:Type} {F:α → β → Prop} {xs:List α} {ys:List β} (r:Paired F xs ys):∀ {i:Nat} {x:α},xs[i]? = some x → ∃ y,ys[i]? = some y ∧ F x y := by
  induction r with
  | nil => intro i x e; simp at e
  | cons h t ih =>
    intro i x e
    cases i with
    | zero => simp at e; subst e; exact ⟨_,rfl,h⟩
    | succ i => simpa using ih (i := i) (by simpa using e)
theorem Paired.getQ {α β:Type} {F:α → β → Prop} {xs:List α} {ys:List β} (r:Paired F xs ys):∀ {i:Nat} {y:β},ys[i]? = some y → ∃ x,xs[i]? = some x ∧ F x y := by
  induction r with
  | nil => intro i x e; simp at e
  | cons h t ih =>
    intro i x e
    cases i with
    | zero => simp at e; subst e; exact ⟨_,rfl,h⟩
    | succ i => simpa using ih (i := i) (by simpa using e)
theorem Paired.setP {α β:Type} {F:α → β → Prop} {xs:List α} {ys:List β} {x:α} {y:β} (r:Paired F xs ys) (h:F x y):∀ {i:Nat},Paired F (xs.set i x) (ys.set i y) := by
  induction r with
  | nil => intro i; exact .nil
  | cons g t ih =>
    intro i
    cases i with
    | zero => exact .cons h t
    | succ i => exact .cons g ih
theorem Paired.appP {α β:Type} {F:α → β → Prop} {xs xs':List α} {ys ys':List β} (r:Paired F xs ys) (s:Paired F xs' ys'):Paired F (xs ++ xs') (ys ++ ys') := by
  induction r with
  | nil => exact s
  | cons h t ih => exact .cons h ih
theorem Paired.takeP {α β:Type} {F:α → β → Prop} {xs:List α} {ys:List β} (r:Paired F xs ys):∀ n,Paired F (xs.take n) (ys.take n) := by
  induction r with
  | nil => intro n; simp; exact .nil
  | cons h t ih =>
    intro n
    cases n with
    | zero => exact .nil
    | succ n => exact .cons h (ih n)
theorem Paired.dropP {α β:Type} {F:α → β → Prop} {xs:List α} {ys:List β} (r:Paired F xs ys):∀ n,Paired F (xs.drop n) (ys.drop n) := by
  induction r with
  | nil => intro n; simp; exact .nil
  | cons h t ih =>
    intro n
    cases n with
    | zero => exact .cons h t
    | succ n => exact ih n
theorem xl:∀ {ds:List PyData} {vs:List V},Reps K Γ.Z ds vs → relWs K Γ (ds.map .d) vs
  | [],_,h => by rw [show _ = [] from h]; exact .nil
  | d :: ds,_,h => by
    obtain ⟨x,r,rfl,h1,h2⟩ := h
    exact .cons h1 (xl h2)
theorem zN:∀ {ds:List PyData} {vs:List V},relWs K Γ (ds.map .d) vs → Reps K Γ.Z ds vs
  | [],_,h => by cases h; rfl
  | d :: ds,_,h => by
    cases h with
    | cons a b => exact ⟨_,_,rfl,a,zN b⟩
noncomputable def yd (O:OM):W → Option (List W)
  | .d (.list ds) => some (ds.map .d)
  | .own a => match O a with
    | some (.lst ws) => some ws
    | some (.grid rows) => some ((List.range rows.length).map (.row a))
    | _ => none
  | .row a i => match O a with
    | some (.grid rows) => (rows[i]?).map (·.map .d)
    | _ => none
  | _ => none
noncomputable def xK:W → Option (List PyData)
  | .d (.tuple ds) => some ds
  | _ => none
theorem uf {w:W} {v:V} {ds:List PyData} (S:Sim K Γ O H) (r:relW K Γ w v) (e:xK w = some ds):∃ a vs,v = .ref a ∧ SqT K H a vs ∧ relWs K Γ (ds.map .d) vs := by
  cases w with
  | d x =>
    cases x with
    | tuple es =>
      simp [xK] at e
      subst e
      obtain ⟨a,xs,e1,h1,h2⟩ := r
      exact ⟨a,xs,e1,h1.same S.z,xl h2⟩
    | _ => simp [xK] at e
  | own a => simp [xK] at e
  | row a i => simp [xK] at e
theorem xo {w:W} {v:V} {ws:List W} (S:Sim K Γ O H) (r:relW K Γ w v) (e:yd O w = some ws):∃ a vs,v = .ref a ∧ SqL K H a vs ∧ relWs K Γ ws vs := by
  cases w with
  | d x =>
    cases x with
    | list es =>
      simp [yd] at e
      subst e
      obtain ⟨a,xs,e1,h1,h2⟩ := r
      exact ⟨a,xs,e1,h1.same S.z,xl h2⟩
    | _ => simp [yd] at e
  | own a =>
    cases (show v = .ref a from r)
    simp only [yd] at e
    split at e
    · rename_i us h
      cases e
      obtain ⟨_,vs,h1,h2⟩ := S.o _ _ h
      exact ⟨a,vs,rfl,SqL.of h1,h2⟩
    · rename_i rows h
      cases e
      obtain ⟨_,rs,hg,h1,hl,_,_⟩ := S.o _ _ h
      refine ⟨a,_,rfl,SqL.of h1,?_⟩
      rw [← hl]
      have key:∀ (ss:List Addr) (k:Nat),(∀ i,ss[i]? = rs[k + i]?) → relWs K Γ ((List.range' k ss.length).map (W.row a)) (ss.map V.ref) := by
        intro ss
        induction ss with
        | nil => intro k _; exact .nil
        | cons s ss ih =>
          intro k hk
          refine .cons ⟨rs,s,hg,?_,rfl⟩ (ih (k + 1) fun i => ?_)
          · have := hk 0; simpa using this.symm
          · have := hk (i + 1)
            rw [List.getElem?_cons_succ] at this
            rw [this]
            congr 1
            omega
      have h0 := key rs 0 (fun i => by rw [Nat.zero_add])
      rw [List.range_eq_range']
      exact h0
    · cases e
  | row a i =>
    obtain ⟨rs,r0,hg,hr,rfl⟩ := r
    simp only [yd] at e
    split at e
    · rename_i rows h
      cases hi:rows[i]? with
      | none => rw [hi] at e; cases e
      | some ds =>
        rw [hi] at e
        cases e
        obtain ⟨_,rs',hg',h1,hl,_,hrow⟩ := S.o _ _ h
        rw [hg] at hg'
        cases hg'
        obtain ⟨_,_,vs,h2,h3⟩ := hrow i r0 ds hr hi
        exact ⟨r0,vs,rfl,SqL.of h2,xl h3⟩
    · cases e
noncomputable def xF:List W → Option (List PyData)
  | [] => some []
  | .d x :: ws => (xF ws).map (x :: ·)
  | _ :: _ => none
theorem xL:∀ ds:List PyData,xF (ds.map .d) = some ds
  | [] => rfl
  | d :: ds => by simp [xF,xL ds]
theorem xP:∀ {ws:List W} {ds:List PyData},xF ws = some ds → ws = ds.map .d
  | [],ds,e => by cases e; rfl
  | .d x :: ws,ds,e => by
    simp [xF] at e
    obtain ⟨es,h1,h2⟩ := e
    subst h2
    rw [xP h1]
    rfl
  | .own _ :: _,_,e => by simp [xF] at e
  | .row _ _ :: _,_,e => by simp [xF] at e
noncomputable def ug (O:OM):W → Option PyData
  | .d x => some x
  | .own a => match O a with
    | some (.lst ws) => (xF ws).map .list
    | some (.grid rows) => some (.list (rows.map .list))
    | _ => none
  | .row a i => match O a with
    | some (.grid rows) => (rows[i]?).map .list
    | _ => none
theorem uV {w:W} {v:V} {x:PyData} (S:Sim K Γ O H) (r:relW K Γ w v) (e:ug O w = some x):Rep K H x v := by
  cases w with
  | d y => cases e; exact Rep.same S.z _ _ r
  | own a =>
    cases (show v = .ref a from r)
    simp only [ug] at e
    split at e
    · rename_i ws h
      cases hd:xF ws with
      | none => rw [hd] at e; cases e
      | some ds =>
        rw [hd] at e
        cases e
        obtain ⟨_,vs,h1,h2⟩ := S.o _ _ h
        rw [xP hd] at h2
        exact ⟨a,vs,rfl,SqL.of h1,Reps.same S.z _ _ (zN h2)⟩
    · rename_i rows h
      cases e
      obtain ⟨_,rs,hg,h1,hl,_,hrow⟩ := S.o _ _ h
      refine ⟨a,_,rfl,SqL.of h1,?_⟩
      have key:∀ (rows:List (List PyData)) (rs:List Addr),rs.length = rows.length → (∀ (i:Nat) (r:Addr) (ds:List PyData),rs[i]? = some r → rows[i]? = some ds → ∃ vs,H r = some (.lst vs) ∧ Reps K Γ.Z ds vs) → Reps K H (rows.map .list) (rs.map V.ref) := by
        intro rows
        induction rows with
        | nil => intro rs hl _; cases rs with | nil => rfl | cons _ _ => simp at hl
        | cons row rows ih =>
          intro rs hl hr
          cases rs with
          | nil => simp at hl
          | cons r rs =>
            obtain ⟨vs,h1,h2⟩ := hr 0 r row rfl rfl
            exact ⟨.ref r,_,rfl,⟨r,vs,rfl,SqL.of h1,Reps.same S.z _ _ h2⟩,ih rs (by simpa using hl) fun i r ds a b => hr (i + 1) r ds (by simpa using a) (by simpa using b)⟩
      exact key rows rs hl fun i r ds a b => (hrow i r ds a b).2.2
    · cases e
  | row a i =>
    obtain ⟨rs,r0,hg,hr,rfl⟩ := r
    simp only [ug] at e
    split at e
    · rename_i rows h
      cases hi:rows[i]? with
      | none => rw [hi] at e; cases e
      | some ds =>
        rw [hi] at e
        cases e
        obtain ⟨_,rs',hg',h1,hl,_,hrow⟩ := S.o _ _ h
        rw [hg] at hg'
        cases hg'
        obtain ⟨_,_,vs,h2,h3⟩ := hrow i r0 ds hr hi
        exact ⟨r0,vs,rfl,SqL.of h2,Reps.same S.z _ _ h3⟩
    · cases e
theorem Sim.free (S:Sim K Γ O H) {p:Addr} (hp:H p = none):Γ.Z p = none ∧ O p = none ∧ Γ.G p = none := by
  refine ⟨S.z.free hp,?_,?_⟩
  · cases e:O p with
    | none => rfl
    | some oo =>
      obtain ⟨_,h⟩ := S.o _ _ e
      cases oo with
      | lst ws => obtain ⟨vs,h1,_⟩ := h; rw [hp] at h1; cases h1
      | dK ws => obtain ⟨vs,h1,_⟩ := h; rw [hp] at h1; cases h1
      | ins C dx ws => obtain ⟨vs,h1,_⟩ := h; rw [hp] at h1; cases h1
      | grid rows => obtain ⟨rs,_,h1,_⟩ := h; rw [hp] at h1; cases h1
      | raw p => obtain ⟨o,h1,_⟩ := h; rw [hp] at h1; cases h1
  · cases e:Γ.G p with
    | none => rfl
    | some rs =>
      obtain ⟨o,h⟩ := S.gd _ _ e
      rw [hp] at h
      cases h
theorem ObjW.keep {a:Addr} {oo:OO} (h:ObjW K Γ O H a oo) (hl:Le Γ Γ') {O':OM} (ha:H' a = H a) (hG:Γ'.G a = Γ.G a) (hr:∀ rs r,Γ.G a = some rs → (∃ rows,oo = .grid rows) → r ∈ rs → H' r = H r ∧ Γ'.Z r = Γ.Z r ∧ O' r = O r):ObjW K Γ' O' H' a oo := by
  cases oo with
  | lst ws => obtain ⟨vs,h1,h2⟩ := h; exact ⟨vs,by rw [ha]; exact h1,h2.mono hl⟩
  | dK ws => obtain ⟨vs,h1,h2⟩ := h; exact ⟨vs,by rw [ha]; exact h1,h2.mono hl⟩
  | ins C dx ws => obtain ⟨vs,h1,h2⟩ := h; exact ⟨vs,by rw [ha]; exact h1,h2.mono hl⟩
  | raw p => obtain ⟨o,h1,h2⟩ := h; exact ⟨o,by rw [ha]; exact h1,fun Z hZ => h2 Z (hl.z.trans hZ)⟩
  | grid rows =>
    obtain ⟨rs,hg,h1,h2,hn,h3⟩ := h
    refine ⟨rs,by rw [hG]; exact hg,by rw [ha]; exact h1,h2,hn,fun i r ds e1 e2 => ?_⟩
    obtain ⟨q1,q2,q3⟩ := hr rs r hg ⟨rows,rfl⟩ (List.mem_of_getElem? e1)
    obtain ⟨z1,z2,vs,z3,z4⟩ := h3 i r ds e1 e2
    exact ⟨by rw [q2]; exact z1,by rw [q3]; exact z2,vs,by rw [q1]; exact z3,Reps.same hl.z _ _ z4⟩
theorem Sim.rowIn (S:Sim K Γ O H) {a:Addr} {rows:List (List PyData)} {rs:List Addr} {r:Addr} (ho:O a = some (.grid rows)) (hg:Γ.G a = some rs) (hr:r ∈ rs):Γ.Z r = none ∧ O r = none ∧ ∃ vs,H r = some (.lst vs) := by
  obtain ⟨_,rs',hg',h1,hl,_,hrow⟩ := S.o _ _ ho
  rw [hg] at hg'
  cases hg'
  obtain ⟨i,hi,rfl⟩ := List.mem_iff_getElem.mp hr
  obtain ⟨z1,z2,vs,z3,_⟩ := hrow i rs[i] (rows[i]'(by omega)) (List.getElem?_eq_getElem hi) (List.getElem?_eq_getElem (by omega))
  exact ⟨z1,z2,vs,z3⟩
theorem Sim.newD (S:Sim K Γ O H) {p:Addr} (hp:H p = none) (o:HO):Le Γ ⟨upd Γ.Z p o,Γ.G,Γ.F⟩ ∧ Sim K ⟨upd Γ.Z p o,Γ.G,Γ.F⟩ O (upd H p o) := by
  obtain ⟨hz,hO,hG⟩ := S.free hp
  have le:Le Γ ⟨upd Γ.Z p o,Γ.G,Γ.F⟩ := Le.zOnly (xS hz)
  have hF := S.f.free hp
  refine ⟨le,⟨fun b u e => ?_,fun a oo e => ?_,fun a rs e => ?_,uS S.f hF,S.gn,S.fg,fun a o' e => ?_,S.u⟩⟩
  · replace e:upd Γ.Z p o b = some u := e
    by_cases hb:b = p
    · subst hb; rw [zn] at e; rw [zn]; exact e
    · rw [zi hb] at e; rw [zi hb]; exact S.z _ _ e
  · have hap:a ≠ p := fun z => by rw [z,hO] at e; cases e
    obtain ⟨h1,h2⟩ := S.o _ _ e
    refine ⟨by show upd Γ.Z p o a = none; rw [zi hap]; exact h1,h2.keep le (zi hap) rfl fun rs r hg ⟨rows,hrw⟩ hr => ?_⟩
    subst hrw
    obtain ⟨_,_,vs,q⟩ := S.rowIn e hg hr
    have hrp:r ≠ p := fun z => by rw [z,hp] at q; cases q
    exact ⟨zi hrp,zi hrp,rfl⟩
  · obtain ⟨o',h⟩ := S.gd _ _ e
    exact ⟨o',by rw [zi (y8 h hp)]; exact h⟩
  · obtain ⟨q1,q2,q3⟩ := S.fd a o' e
    exact ⟨(zi (y8 e hF)).trans q1,q2,q3⟩
theorem Sim.newO (S:Sim K Γ O H) {p:Addr} (hp:H p = none) {o:HO} {oo:OO} (hg:∀ rows,oo ≠ .grid rows) (ho:ObjW K Γ O (upd H p o) p oo):Sim K Γ (updO O p oo) (upd H p o) := by
  obtain ⟨hz,hO,hG⟩ := S.free hp
  have hF := S.f.free hp
  have k1:∀ {x:Addr} {rx:List (List PyData)},updO O p oo x = some (.grid rx) → O x = some (.grid rx) := fun {x rx} h => by
    by_cases hx:x = p
    · subst hx; rw [ze] at h; cases h; exact absurd rfl (hg rx)
    · rw [zf hx] at h; exact h
  refine ⟨fun b u e => ?_,fun a o' e => ?_,fun a rs e => ?_,uS S.f hF,fun a o' e hn => ?_,S.fg,fun a o' e => ?_,fun a b ra rb rs ss r e1 e2 => S.u a b ra rb rs ss r (k1 e1) (k1 e2)⟩
  · rw [zi (fun z => by rw [z,hz] at e; cases e)]; exact S.z _ _ e
  · by_cases hap:a = p
    · subst hap
      rw [ze] at e
      cases e
      refine ⟨hz,ho.keep (Le.refl _) rfl rfl fun rs r h1 ⟨rows,h2⟩ => absurd h2 (hg rows)⟩
    · rw [zf hap] at e
      obtain ⟨h1,h2⟩ := S.o _ _ e
      refine ⟨h1,h2.keep (Le.refl _) (zi hap) rfl fun rs r hg' ⟨rows,hrw⟩ hr => ?_⟩
      subst hrw
      obtain ⟨_,q2,vs,q⟩ := S.rowIn e hg' hr
      have hrp:r ≠ p := fun z => by rw [z,hp] at q; cases q
      exact ⟨zi hrp,rfl,zf hrp⟩
  · obtain ⟨o',h⟩ := S.gd _ _ e
    exact ⟨o',by rw [zi (y8 h hp)]; exact h⟩
  · by_cases hap:a = p
    · rw [hap]; exact hG
    · rw [zf hap] at e; exact S.gn a o' e hn
  · obtain ⟨q1,q2,q3⟩ := S.fd a o' e
    exact ⟨q1,by rw [zf (y8 e hF)]; exact q2,fun b rows rs e1 => q3 b rows rs (k1 e1)⟩
theorem Sim.put (S:Sim K Γ O H) {a:Addr} {oo o1:OO} {o:HO} (h0:O a = some o1) (hn:∀ rows,o1 ≠ .grid rows) (hg:∀ rows,oo ≠ .grid rows) (ho:ObjW K Γ O (upd H a o) a oo):Sim K Γ (updO O a oo) (upd H a o) := by
  obtain ⟨hz,h1⟩ := S.o _ _ h0
  have k1:∀ {x:Addr} {rx:List (List PyData)},updO O a oo x = some (.grid rx) → O x = some (.grid rx) := fun {x rx} h => by
    by_cases hx:x = a
    · subst hx; rw [ze] at h; cases h; exact absurd rfl (hg rx)
    · rw [zf hx] at h; exact h
  have nF:∀ b o',Γ.F b = some o' → b ≠ a := fun b o' e z => by
    have := (S.fd b o' e).2.1
    rw [z,h0] at this; cases this
  refine ⟨fun b u e => ?_,fun x o' e => ?_,fun x rs e => ?_,fun b u e => ?_,fun x o' e hn' => ?_,S.fg,fun x o' e => ?_,fun x b ra rb rs ss r e1 e2 => S.u x b ra rb rs ss r (k1 e1) (k1 e2)⟩
  · rw [zi (fun z => by rw [z,hz] at e; cases e)]; exact S.z _ _ e
  · by_cases hap:x = a
    · subst hap
      rw [ze] at e
      cases e
      exact ⟨hz,ho.keep (Le.refl _) rfl rfl fun rs r h1 ⟨rows,h2⟩ => absurd h2 (hg rows)⟩
    · rw [zf hap] at e
      obtain ⟨h1,h2⟩ := S.o _ _ e
      refine ⟨h1,h2.keep (Le.refl _) (zi hap) rfl fun rs r hg' ⟨rows,hrw⟩ hr => ?_⟩
      subst hrw
      obtain ⟨_,q2,vs,q⟩ := S.rowIn e hg' hr
      have hrp:r ≠ a := fun z => by rw [z,h0] at q2; cases q2
      exact ⟨zi hrp,rfl,zf hrp⟩
  · obtain ⟨o',h⟩ := S.gd _ _ e
    by_cases hx:x = a
    · exact ⟨o,by rw [hx,zn]⟩
    · exact ⟨o',by rw [zi hx]; exact h⟩
  · rw [zi (nF _ _ e)]; exact S.f _ _ e
  · by_cases hap:x = a
    · rw [hap]; exact S.gn a o1 h0 hn
    · rw [zf hap] at e; exact S.gn x o' e hn'
  · obtain ⟨q1,q2,q3⟩ := S.fd x o' e
    exact ⟨q1,by rw [zf (nF _ _ e)]; exact q2,fun b rows rs e1 => q3 b rows rs (k1 e1)⟩
theorem Sim.drop (S:Sim K Γ O H) (a:Addr):Sim K Γ (del O a) H := by
  have k1:∀ {x:Addr} {o:OO},del O a x = some o → x ≠ a ∧ O x = some o := fun {x o} h => by
    by_cases hx:x = a
    · subst hx; rw [x3] at h; cases h
    · rw [x8 hx] at h; exact ⟨hx,h⟩
  refine ⟨S.z,fun x o e => ?_,S.gd,S.f,fun x o e hn => S.gn x o (k1 e).2 hn,S.fg,fun x o e => ⟨(S.fd x o e).1,by unfold del; split; rfl; exact (S.fd x o e).2.1,fun b rows rs e1 => (S.fd x o e).2.2 b rows rs (k1 e1).2⟩,fun x b ra rb rs ss r e1 e2 => S.u x b ra rb rs ss r (k1 e1).2 (k1 e2).2⟩
  obtain ⟨hx,e⟩ := k1 e
  obtain ⟨h1,h2⟩ := S.o _ _ e
  refine ⟨h1,h2.keep (Le.refl _) rfl rfl fun rs r hg ⟨rows,hrw⟩ hr => ?_⟩
  subst hrw
  obtain ⟨_,q2,_⟩ := S.rowIn e hg hr
  refine ⟨rfl,rfl,?_⟩
  rw [q2]
  unfold del
  split
  · rfl
  · exact q2
theorem Sim.freeze (S:Sim K Γ O H) {a:Addr} {ds:List PyData} (h:O a = some (.lst (ds.map .d))):∃ Γ',Le Γ Γ' ∧ Sim K Γ' (del O a) H ∧ relW K Γ' (.d (.list ds)) (.ref a) := by
  obtain ⟨hz,vs,h1,h2⟩ := S.o _ _ h
  have le:Le Γ ⟨upd Γ.Z a (.lst vs),Γ.G,Γ.F⟩ := Le.zOnly (xS hz)
  have S1 := S.drop a
  have nF:∀ b o',Γ.F b = some o' → b ≠ a := fun b o' e z => by
    have := (S.fd b o' e).2.1
    rw [z,h] at this; cases this
  refine ⟨⟨upd Γ.Z a (.lst vs),Γ.G,Γ.F⟩,le,⟨fun b u e => ?_,fun x o e => ?_,S.gd,S.f,S1.gn,S.fg,fun x o e => ⟨(zi (nF x o e)).trans (S1.fd x o e).1,(S1.fd x o e).2⟩,S1.u⟩,⟨a,vs,rfl,SqL.of zn,Reps.same le.z _ _ (zN h2)⟩⟩
  · replace e:upd Γ.Z a (.lst vs) b = some u := e
    by_cases hb:b = a
    · subst hb; rw [zn] at e; cases e; exact h1
    · rw [zi hb] at e; exact S.z _ _ e
  · have hx:x ≠ a := fun z => by rw [z,x3] at e; cases e
    obtain ⟨q1,q2⟩ := S1.o _ _ e
    refine ⟨by show upd Γ.Z a _ x = none; rw [zi hx]; exact q1,q2.keep le rfl rfl fun rs r hg ⟨rows,hrw⟩ hr => ⟨rfl,?_,rfl⟩⟩
    subst hrw
    rw [x8 hx] at e
    obtain ⟨_,q2,_⟩ := S.rowIn e hg hr
    exact zi (fun z => by rw [z,h] at q2; cases q2)
theorem Sim.cell (S:Sim K Γ O H) {a r:Addr} {rows:List (List PyData)} {rs:List Addr} {i j:Nat} {ds:List PyData} {vs:List V} {x:PyData} {v:V} (h0:O a = some (.grid rows)) (hg:Γ.G a = some rs) (hr:rs[i]? = some r) (hd:rows[i]? = some ds)
    (hv:H r = some (.lst vs)) (rx:Rep K Γ.Z x v):Sim K Γ (updO O a (.grid (rows.set i (ds.set j x)))) (upd H r (.lst (vs.set j v))) := by
  obtain ⟨hz,rs',hg',h1,hl,hn,hrow⟩ := S.o _ _ h0
  rw [hg] at hg'
  cases hg'
  obtain ⟨z1,z2,vs',z3,z4⟩ := hrow i r ds hr hd
  rw [hv] at z3
  cases z3
  have har:a ≠ r := fun e => by rw [← e,h0] at z2; cases z2
  have nF:∀ b o',Γ.F b = some o' → b ≠ r := fun b o' e z => (S.fd b o' e).2.2 a rows rs h0 hg (by rw [z]; exact List.mem_of_getElem? hr)
  have nFa:∀ b o',Γ.F b = some o' → b ≠ a := fun b o' e z => by
    have := (S.fd b o' e).2.1
    rw [z,h0] at this; cases this
  have kg:∀ {b:Addr} {rb:List (List PyData)},updO O a (.grid (rows.set i (ds.set j x))) b = some (.grid rb) → ∃ ry,O b = some (.grid ry) := fun {b rb} e1 => by
    by_cases hx:b = a
    · exact ⟨rows,by rw [hx]; exact h0⟩
    · rw [zf hx] at e1; exact ⟨rb,e1⟩
  refine ⟨fun b u e => ?_,fun b oo e => ?_,fun b ss e => ?_,fun b u e => by rw [zi (nF _ _ e)]; exact S.f _ _ e,fun b o' e hn' => ?_,S.fg,fun b o' e => ⟨(S.fd b o' e).1,by rw [zf (nFa _ _ e)]; exact (S.fd b o' e).2.1,fun c rc ss e1 g1 => by obtain ⟨ry,e2⟩ := kg e1; exact (S.fd b o' e).2.2 c ry ss e2 g1⟩,fun b c rb rc ss tt q e1 e2 h3 h4 h5 h6 => ?_⟩
  · rw [zi (fun z => by rw [z,z1] at e; cases e)]; exact S.z _ _ e
  · by_cases hb:b = a
    · subst hb
      rw [ze] at e
      cases e
      refine ⟨hz,rs,hg,by rw [zi har]; exact h1,by rw [List.length_set]; exact hl,hn,fun k q es e1 e2 => ?_⟩
      have hq:O q = none := (S.rowIn h0 hg (List.mem_of_getElem? e1)).2.1
      have hqb:q ≠ b := fun e => by rw [e,h0] at hq; cases hq
      by_cases hk:k = i
      · subst hk
        rw [hr] at e1
        cases e1
        rw [List.getElem?_set_self (List.getElem?_eq_some_iff.mp hd).1] at e2
        cases e2
        refine ⟨z1,by rw [zf hqb]; exact z2,_,zn,?_⟩
        have hw := xl (Γ := Γ) z4
        have hw2 := Paired.setP hw (show relW K Γ (.d x) v from rx) (i := j)
        rw [← List.map_set] at hw2
        exact zN hw2
      · have hne:q ≠ r := fun e => by
          rw [e] at e1
          obtain ⟨l1,g1⟩ := List.getElem?_eq_some_iff.mp e1
          obtain ⟨l2,g2⟩ := List.getElem?_eq_some_iff.mp hr
          exact hk ((List.getElem_inj hn).mp (g1.trans g2.symm))
        rw [List.getElem?_set_ne (Ne.symm hk)] at e2
        obtain ⟨y1,y2,ws,y3,y4⟩ := hrow k q es e1 e2
        exact ⟨y1,by rw [zf hqb]; exact y2,ws,by rw [zi hne]; exact y3,y4⟩
    · rw [zf hb] at e
      obtain ⟨q1,q2⟩ := S.o _ _ e
      have hbr:b ≠ r := fun z => by rw [z,z2] at e; cases e
      refine ⟨q1,q2.keep (Le.refl _) (zi hbr) rfl fun ss q hgs ⟨rows',hrw⟩ hq => ?_⟩
      subst hrw
      obtain ⟨w1,w2,ws,w3⟩ := S.rowIn e hgs hq
      have hqr:q ≠ r := fun z => hb (S.u b a rows' rows ss rs q e h0 hgs hg hq (by rw [z]; exact List.mem_of_getElem? hr))
      exact ⟨zi hqr,rfl,zf (fun z => by rw [z,h0] at w2; cases w2)⟩
  · obtain ⟨o,h⟩ := S.gd _ _ e
    by_cases hb:b = r
    · exact ⟨_,by rw [hb,zn]⟩
    · exact ⟨o,by rw [zi hb]; exact h⟩
  · by_cases hb:b = a
    · subst hb; rw [ze] at e; cases e; exact absurd rfl (hn' _)
    · rw [zf hb] at e; exact S.gn b o' e hn'
  · obtain ⟨r1,f1⟩ := kg e1
    obtain ⟨r2,f2⟩ := kg e2
    exact S.u b c r1 r2 ss tt q f1 f2 h3 h4 h5 h6
theorem Sim.absorb (S:Sim K Γ O H) {a b:Addr} {rows:List (List PyData)} {rs:List Addr} {ds:List PyData} (h0:O a = some (.grid rows)) (hg:Γ.G a = some rs) (hb:O b = some (.lst (ds.map .d))) :
    H a = some (.lst (rs.map V.ref)) ∧ rs.length = rows.length ∧ ∃ Γ',Le Γ Γ' ∧ Sim K Γ' (updO (del O b) a (.grid (rows ++ [ds]))) (upd H a (.lst (rs.map V.ref ++ [.ref b]))) := by
  obtain ⟨hz,rs',hg',h1,hl,hn,hrow⟩ := S.o _ _ h0
  rw [hg] at hg'
  cases hg'
  obtain ⟨hzb,vb,hb1,hb2⟩ := S.o _ _ hb
  have hab:a ≠ b := fun e => by rw [e,hb] at h0; cases h0
  have hbr:b ∉ rs := fun m => by
    obtain ⟨_,q,_⟩ := S.rowIn h0 hg m
    rw [hb] at q; cases q
  have le:Le Γ ⟨Γ.Z,fun x => if x = a then some (rs ++ [b]) else Γ.G x,Γ.F⟩ := ⟨rfl,Same.refl _,fun x ss h => by
    by_cases hx:x = a
    · subst hx; rw [hg] at h; cases h; exact ⟨[b],by simp⟩
    · exact ⟨[],by simp [hx,h]⟩⟩
  have nFa:∀ c o',Γ.F c = some o' → c ≠ a := fun c o' e z => by
    have := (S.fd c o' e).2.1
    rw [z,h0] at this; cases this
  have nFb:∀ c o',Γ.F c = some o' → c ≠ b := fun c o' e z => by
    have := (S.fd c o' e).2.1
    rw [z,hb] at this; cases this
  have k1:∀ {x:Addr} {rx:List (List PyData)},updO (del O b) a (.grid (rows ++ [ds])) x = some (.grid rx) → ∃ ry,O x = some (.grid ry) := fun {x rx} h => by
    by_cases hx:x = a
    · exact ⟨rows,by rw [hx]; exact h0⟩
    · rw [zf hx] at h
      by_cases hxb:x = b
      · rw [hxb,x3] at h; cases h
      · rw [x8 hxb] at h; exact ⟨rx,h⟩
  refine ⟨h1,hl,_,le,⟨fun x u e => ?_,fun x oo e => ?_,fun x ss e => ?_,fun c u e => by rw [zi (nFa _ _ e)]; exact S.f _ _ e,fun x o' e hn' => ?_,fun c o' e => by have hne := nFa c o' e; simpa [hne] using S.fg c o' e,fun c o' e => ⟨(S.fd c o' e).1,by rw [zf (nFa _ _ e),x8 (nFb _ _ e)]; exact (S.fd c o' e).2.1,fun d rd ss e1 g1 => ?_⟩,fun x y ra rb ss tt r e1 e2 g1 g2 m1 m2 => ?_⟩⟩
  · rw [zi (fun z => by rw [z,show ({ Z := Γ.Z,G := fun x => if x = a then some (rs ++ [b]) else Γ.G x,F := Γ.F }:Gh).Z a = none from hz] at e; cases e)]; exact S.z _ _ e
  · by_cases hx:x = a
    · subst hx
      rw [ze] at e
      cases e
      refine ⟨hz,rs ++ [b],by simp,by rw [zn,List.map_append]; rfl,by simp [hl],?_,fun i r es e1 e2 => ?_⟩
      · rw [List.nodup_append]
        exact ⟨hn,by simp,fun u hu v hv => by simp at hv; subst hv; exact fun z => hbr (by rw [← z]; exact hu)⟩
      · by_cases hi:i < rs.length
        · rw [List.getElem?_append_left hi] at e1
          rw [List.getElem?_append_left (by omega)] at e2
          obtain ⟨y1,y2,ws,y3,y4⟩ := hrow i r es e1 e2
          have hrx:r ≠ x := fun z => by rw [z,h0] at y2; cases y2
          refine ⟨y1,?_,ws,by rw [zi hrx]; exact y3,y4⟩
          rw [zf hrx]
          unfold del
          split
          · rfl
          · exact y2
        · have hi2:i = rs.length := by
            have := (List.getElem?_eq_some_iff.mp e1).1
            simp at this; omega
          subst hi2
          rw [List.getElem?_append_right (Nat.le_refl _)] at e1
          simp at e1
          subst e1
          rw [hl,List.getElem?_append_right (Nat.le_refl _)] at e2
          simp at e2
          subst e2
          exact ⟨hzb,by rw [zf (Ne.symm hab),x3],vb,by rw [zi (Ne.symm hab)]; exact hb1,zN (Γ := Γ) hb2⟩
    · rw [zf hx] at e
      have hxb:x ≠ b := fun z => by rw [z,x3] at e; cases e
      rw [x8 hxb] at e
      obtain ⟨q1,q2⟩ := S.o _ _ e
      refine ⟨q1,q2.keep le (zi hx) (by simp [hx]) fun ss r hgs ⟨rows',hrw⟩ hq => ?_⟩
      subst hrw
      obtain ⟨w1,w2,ws,w3⟩ := S.rowIn e hgs hq
      have hra:r ≠ a := fun z => by rw [z,h0] at w2; cases w2
      have hrb:r ≠ b := fun z => by rw [z,hb] at w2; cases w2
      exact ⟨zi hra,rfl,by rw [zf hra,x8 hrb]⟩
  · by_cases hx:x = a
    · exact ⟨_,by rw [hx,zn]⟩
    · obtain ⟨o,h⟩ := S.gd x ss (by simpa [hx] using e)
      exact ⟨o,by rw [zi hx]; exact h⟩
  · by_cases hx:x = a
    · subst hx; rw [ze] at e; cases e; exact absurd rfl (hn' _)
    · rw [zf hx] at e
      by_cases hxb:x = b
      · rw [hxb,x3] at e; cases e
      · rw [x8 hxb] at e
        simpa [hx] using S.gn x o' e hn'
  · by_cases hd:d = a
    · subst hd
      simp at g1
      subst g1
      intro m
      rcases List.mem_append.mp m with m | m
      · exact (S.fd c o' e).2.2 d rows rs h0 hg m
      · simp at m; exact nFb _ _ e m
    · obtain ⟨ry,e2⟩ := k1 e1
      exact (S.fd c o' e).2.2 d ry ss e2 (by simpa [hd] using g1)
  · obtain ⟨r1,f1⟩ := k1 e1
    obtain ⟨r2,f2⟩ := k1 e2
    have nb:∀ {z:Addr} {rz:List (List PyData)} {sz:List Addr},O z = some (.grid rz) → Γ.G z = some sz → b ∉ sz := fun hz1 hz2 m => by
      obtain ⟨_,q,_⟩ := S.rowIn hz1 hz2 m
      rw [hb] at q; cases q
    by_cases hx:x = a
    · by_cases hy:y = a
      · rw [hx,hy]
      · have g2':Γ.G y = some tt := by simpa [hy] using g2
        rw [hx] at g1 ⊢
        simp at g1
        subst g1
        rcases List.mem_append.mp m1 with m | m
        · exact S.u a y rows r2 rs tt r h0 f2 hg g2' m m2
        · simp at m; subst m; exact absurd m2 (nb f2 g2')
    · have g1':Γ.G x = some ss := by simpa [hx] using g1
      by_cases hy:y = a
      · rw [hy] at g2 ⊢
        simp at g2
        subst g2
        rcases List.mem_append.mp m2 with m | m
        · exact S.u x a r1 rows ss rs r f1 h0 g1' hg m1 m
        · simp at m; subst m; exact absurd m1 (nb f1 g1')
      · exact S.u x y r1 r2 ss tt r f1 f2 g1' (by simpa [hy] using g2) m1 m2
theorem relW.setF {F:Hp}:∀ {w:W} {v:V},relW K Γ w v → relW K ⟨Γ.Z,Γ.G,F⟩ w v
  | .d _,_,h => h
  | .own _,_,h => h
  | .row _ _,_,h => h
theorem relR.setF {F:Hp} {ρ:List (Option W)} {σ:St} (r:relR K Γ ρ σ):relR K ⟨Γ.Z,Γ.G,F⟩ ρ σ := Paired.mapP r fun a b h => by
  cases a with
  | none => trivial
  | some w => cases b with
    | none => exact h
    | some v => exact relW.setF h
theorem ObjW.setF {F:Hp} {a:Addr} {oo:OO} (h:ObjW K Γ O H a oo):ObjW K ⟨Γ.Z,Γ.G,F⟩ O H a oo := by
  cases oo with
  | lst ws => obtain ⟨vs,h1,h2⟩ := h; exact ⟨vs,h1,Paired.mapP h2 fun _ _ z => z.setF⟩
  | dK ws => obtain ⟨vs,h1,h2⟩ := h; exact ⟨vs,h1,Paired.mapP h2 fun _ _ z => ⟨z.1,z.2.setF⟩⟩
  | ins C dx ws => obtain ⟨vs,h1,h2⟩ := h; exact ⟨vs,h1,Paired.mapP h2 fun _ _ z => ⟨z.1,z.2.setF⟩⟩
  | grid rows => exact h
  | raw p => exact h
theorem Sim.frameNew (S:Sim K Γ O H) {p:Addr} (hp:H p = none) (o:HO):Sim K ⟨Γ.Z,Γ.G,upd Γ.F p o⟩ O (upd H p o) := by
  obtain ⟨hz,hO,hG⟩ := S.free hp
  have key:∀ a o',upd Γ.F p o a = some o' → a = p ∨ (a ≠ p ∧ Γ.F a = some o') := fun a o' e => by
    by_cases ha:a = p
    · exact .inl ha
    · rw [zi ha] at e; exact .inr ⟨ha,e⟩
  refine ⟨fun b u e => ?_,fun a oo e => ?_,fun a rs e => ?_,fun b u e => ?_,S.gn,fun a o' e => ?_,fun a o' e => ?_,S.u⟩
  · rw [zi (fun z => by rw [z,show ({ Z := Γ.Z,G := Γ.G,F := upd Γ.F p o }:Gh).Z p = none from hz] at e; cases e)]; exact S.z _ _ e
  · have hap:a ≠ p := fun z => by rw [z,hO] at e; cases e
    obtain ⟨h1,h2⟩ := S.o _ _ e
    refine ⟨h1,(h2.keep (Le.refl _) (zi hap) rfl fun rs r hg ⟨rows,hrw⟩ hr => ?_).setF⟩
    subst hrw
    obtain ⟨_,_,vs,q⟩ := S.rowIn e hg hr
    exact ⟨zi (fun z => by rw [z,hp] at q; cases q),rfl,rfl⟩
  · obtain ⟨o',h⟩ := S.gd _ _ e
    exact ⟨o',by rw [zi (y8 h hp)]; exact h⟩
  · replace e:upd Γ.F p o b = some u := e
    rcases key b u e with rfl | ⟨hb,e'⟩
    · rw [zn] at e ⊢; exact e
    · rw [zi hb]; exact S.f _ _ e'
  · rcases key a o' e with rfl | ⟨hb,e'⟩
    · exact hG
    · exact S.fg _ _ e'
  · rcases key a o' e with rfl | ⟨hb,e'⟩
    · refine ⟨hz,hO,fun b rows rs e1 g1 m => ?_⟩
      obtain ⟨_,_,vs,q⟩ := S.rowIn e1 g1 m
      rw [hp] at q; cases q
    · exact S.fd _ _ e'
theorem Sim.framePut (S:Sim K Γ O H) {a:Addr} {o1:HO} (h:Γ.F a = some o1) (o:HO):Sim K ⟨Γ.Z,Γ.G,upd Γ.F a o⟩ O (upd H a o) := by
  obtain ⟨hz,hO,hr⟩ := S.fd _ _ h
  have hG := S.fg _ _ h
  have key:∀ b o',upd Γ.F a o b = some o' → b = a ∨ (b ≠ a ∧ Γ.F b = some o') := fun b o' e => by
    by_cases ha:b = a
    · exact .inl ha
    · rw [zi ha] at e; exact .inr ⟨ha,e⟩
  refine ⟨fun b u e => ?_,fun b oo e => ?_,fun b rs e => ?_,fun b u e => ?_,S.gn,fun b o' e => ?_,fun b o' e => ?_,S.u⟩
  · rw [zi (fun z => by rw [z,show ({ Z := Γ.Z,G := Γ.G,F := upd Γ.F a o }:Gh).Z a = none from hz] at e; cases e)]; exact S.z _ _ e
  · have hap:b ≠ a := fun z => by rw [z,hO] at e; cases e
    obtain ⟨h1,h2⟩ := S.o _ _ e
    refine ⟨h1,(h2.keep (Le.refl _) (zi hap) rfl fun rs r hg ⟨rows,hrw⟩ hm => ?_).setF⟩
    subst hrw
    exact ⟨zi (fun z => hr b rows rs e hg (by rw [← z]; exact hm)),rfl,rfl⟩
  · obtain ⟨o',h⟩ := S.gd _ _ e
    by_cases hb:b = a
    · exact ⟨o,by rw [hb,zn]⟩
    · exact ⟨o',by rw [zi hb]; exact h⟩
  · replace e:upd Γ.F a o b = some u := e
    rcases key b u e with rfl | ⟨hb,e'⟩
    · rw [zn] at e ⊢; exact e
    · rw [zi hb]; exact S.f _ _ e'
  · rcases key b o' e with rfl | ⟨hb,e'⟩
    · exact hG
    · exact S.fg _ _ e'
  · rcases key b o' e with rfl | ⟨hb,e'⟩
    · exact ⟨hz,hO,hr⟩
    · exact S.fd _ _ e'
theorem Sim.frameOwn (S:Sim K Γ O H) {a:Addr} {ws:List W} (h:O a = some (.lst ws)):∃ vs,H a = some (.lst vs) ∧ relWs K Γ ws vs ∧ Sim K ⟨Γ.Z,Γ.G,upd Γ.F a (.lst vs)⟩ (del O a) H := by
  obtain ⟨hz,vs,h1,h2⟩ := S.o _ _ h
  have hG := S.gn _ _ h (by intro _ z; cases z)
  have S1 := S.drop a
  have key:∀ b o',upd Γ.F a (.lst vs) b = some o' → b = a ∨ (b ≠ a ∧ Γ.F b = some o') := fun b o' e => by
    by_cases ha:b = a
    · exact .inl ha
    · rw [zi ha] at e; exact .inr ⟨ha,e⟩
  refine ⟨vs,h1,h2,⟨S.z,fun b oo e => ⟨(S1.o b oo e).1,(S1.o b oo e).2.setF⟩,S.gd,fun b u e => ?_,S1.gn,fun b o' e => ?_,fun b o' e => ?_,S1.u⟩⟩
  · replace e:upd Γ.F a (.lst vs) b = some u := e
    rcases key b u e with rfl | ⟨hb,e'⟩
    · rw [zn] at e; cases e; exact h1
    · exact S.f _ _ e'
  · rcases key b o' e with rfl | ⟨hb,e'⟩
    · exact hG
    · exact S.fg _ _ e'
  · rcases key b o' e with rfl | ⟨hb,e'⟩
    · refine ⟨hz,x3,fun c rows rs e1 g1 m => ?_⟩
      obtain ⟨_,q,_⟩ := S1.rowIn e1 g1 m
      have hc:c ≠ b := fun z => by rw [z,x3] at e1; cases e1
      rw [x8 hc] at e1
      have := (S.rowIn e1 g1 m).2.1
      rw [h] at this; cases this
    · exact S1.fd _ _ e'
theorem Sim.unframe (S:Sim K Γ O H) {a:Addr} {ds:List PyData} {vs:List V} {F:Hp} (hF:Γ.F = upd F a (.lst vs)) (h0:F a = none) (hr:Reps K Γ.Z ds vs) :
    Same Γ.Z (upd Γ.Z a (.lst vs)) ∧ Sim K ⟨upd Γ.Z a (.lst vs),Γ.G,F⟩ O H ∧ relW K ⟨upd Γ.Z a (.lst vs),Γ.G,F⟩ (.d (.list ds)) (.ref a) := by
  have hFa:Γ.F a = some (.lst vs) := by rw [hF,zn]
  obtain ⟨hz,hO,hrow⟩ := S.fd _ _ hFa
  have le:Le Γ ⟨upd Γ.Z a (.lst vs),Γ.G,Γ.F⟩ := Le.zOnly (xS hz)
  have kF:∀ b o,F b = some o → b ≠ a ∧ Γ.F b = some o := fun b o e => by
    have hb:b ≠ a := fun z => by rw [z,h0] at e; cases e
    exact ⟨hb,by rw [hF,zi hb]; exact e⟩
  refine ⟨xS hz,⟨fun b u e => ?_,fun b oo e => ?_,S.gd,fun b u e => S.f _ _ (kF b u e).2,S.gn,fun b o e => S.fg b o (kF b o e).2,fun b o e => ⟨(zi (kF b o e).1).trans (S.fd b o (kF b o e).2).1,(S.fd b o (kF b o e).2).2⟩,S.u⟩,⟨a,vs,rfl,SqL.of zn,Reps.same (xS hz) _ _ hr⟩⟩
  · replace e:upd Γ.Z a (.lst vs) b = some u := e
    by_cases hb:b = a
    · subst hb; rw [zn] at e; cases e; exact S.f _ _ hFa
    · rw [zi hb] at e; exact S.z _ _ e
  · obtain ⟨q1,q2⟩ := S.o _ _ e
    have hb:b ≠ a := fun z => by rw [z,hO] at e; cases e
    refine ⟨(zi hb).trans q1,(q2.keep le rfl rfl fun rs r hg ⟨rows,hrw⟩ hm => ⟨rfl,?_,rfl⟩).setF⟩
    subst hrw
    exact zi (fun z => hrow b rows rs e hg (by rw [← z]; exact hm))
theorem Sim.gridify (S:Sim K Γ O H) {a:Addr} {rs:List Addr} {rows:List (List PyData)} {F:Hp} (h0:F a = none) (hFa:Γ.F a = some (.lst (rs.map V.ref))) (hn:rs.Nodup) (har:a ∉ rs) (hl:rs.length = rows.length)
    (hrow:∀ (i:Nat) (r:Addr) (ds:List PyData),rs[i]? = some r → rows[i]? = some ds → F r = none ∧ ∃ vs,Γ.F r = some (.lst vs) ∧ Reps K Γ.Z ds vs) (hF:∀ x,x ≠ a → x ∉ rs → Γ.F x = F x) :
    O a = none ∧ ∃ G',(∀ b ss,Γ.G b = some ss → G' b = some ss) ∧ Sim K ⟨Γ.Z,G',F⟩ (updO O a (.grid rows)) H := by
  obtain ⟨hz,hO,_⟩ := S.fd _ _ hFa
  have hG := S.fg _ _ hFa
  have hmem:∀ r ∈ rs,F r = none ∧ ∃ vs,Γ.F r = some (.lst vs) := fun r hr => by
    obtain ⟨i,hi,rfl⟩ := List.mem_iff_getElem.mp hr
    obtain ⟨q1,vs,q2,_⟩ := hrow i rs[i] (rows[i]'(by omega)) (List.getElem?_eq_getElem hi) (List.getElem?_eq_getElem (by omega))
    exact ⟨q1,vs,q2⟩
  have kF:∀ b o,F b = some o → b ≠ a ∧ b ∉ rs ∧ Γ.F b = some o := fun b o e => by
    have hb:b ≠ a := fun z => by rw [z,h0] at e; cases e
    have hb2:b ∉ rs := fun m => by rw [(hmem b m).1] at e; cases e
    exact ⟨hb,hb2,by rw [hF b hb hb2]; exact e⟩
  have le:Le Γ ⟨Γ.Z,fun b => if b = a then some rs else Γ.G b,Γ.F⟩ := ⟨rfl,Same.refl _,fun b ss h => ⟨[],by
    have:b ≠ a := fun e => by rw [e,hG] at h; cases h
    simp [this,h]⟩⟩
  refine ⟨hO,fun b => if b = a then some rs else Γ.G b,fun b ss h => by
    have:b ≠ a := fun e => by rw [e,hG] at h; cases h
    simp [this,h],⟨S.z,fun b oo e => ?_,fun b ss e => ?_,fun b u e => S.f _ _ (kF b u e).2.2,fun b oo e hne => ?_,fun b o e => ?_,fun b o e => ?_,fun b c rb rc ss tt r e1 e2 g1 g2 m1 m2 => ?_⟩⟩
  · by_cases hb:b = a
    · subst hb
      rw [ze] at e
      cases e
      refine ⟨hz,rs,by simp,S.f _ _ hFa,hl,hn,fun i r ds q1 q2 => ?_⟩
      obtain ⟨_,vs,q3,q4⟩ := hrow i r ds q1 q2
      obtain ⟨y1,y2,_⟩ := S.fd _ _ q3
      refine ⟨y1,?_,vs,S.f _ _ q3,q4⟩
      rw [zf (fun z => har (by rw [← z]; exact List.mem_of_getElem? q1))]
      exact y2
    · rw [zf hb] at e
      obtain ⟨q1,q2⟩ := S.o _ _ e
      refine ⟨q1,(q2.keep le rfl (by simp [hb]) fun ss r hg ⟨rows',hrw⟩ hm => ⟨rfl,rfl,?_⟩).setF⟩
      subst hrw
      obtain ⟨_,q,_⟩ := S.rowIn e hg hm
      exact zf (fun z => (S.fd _ _ hFa).2.2 b rows' ss e hg (by rw [← z]; exact hm))
  · by_cases hb:b = a
    · rw [hb]; exact ⟨_,S.f _ _ hFa⟩
    · exact S.gd b ss (by simpa [hb] using e)
  · by_cases hb:b = a
    · subst hb; rw [ze] at e; cases e; exact absurd rfl (hne _)
    · rw [zf hb] at e
      simpa [hb] using S.gn b oo e hne
  · have := (kF b o e).1
    simpa [this] using S.fg b o (kF b o e).2.2
  · obtain ⟨k1,k2,k3⟩ := kF b o e
    obtain ⟨y1,y2,y3⟩ := S.fd _ _ k3
    refine ⟨y1,by rw [zf k1]; exact y2,fun c rows' ss e1 g1 => ?_⟩
    by_cases hc:c = a
    · subst hc; simp at g1; subst g1; exact k2
    · rw [zf hc] at e1
      exact y3 c rows' ss e1 (by simpa [hc] using g1)
  · by_cases hb:b = a
    · by_cases hc:c = a
      · rw [hb,hc]
      · subst hb
        simp at g1
        subst g1
        rw [zf hc] at e2
        obtain ⟨_,vs,q⟩ := hmem r m1
        exact absurd m2 ((S.fd _ _ q).2.2 c rc tt e2 (by simpa [hc] using g2))
    · rw [zf hb] at e1
      by_cases hc:c = a
      · subst hc
        simp at g2
        subst g2
        obtain ⟨_,vs,q⟩ := hmem r m2
        exact absurd m1 ((S.fd _ _ q).2.2 b rb ss e1 (by simpa [hb] using g1))
      · rw [zf hc] at e2
        exact S.u b c rb rc ss tt r e1 e2 (by simpa [hb] using g1) (by simpa [hc] using g2) m1 m2
end
end L2
namespace L2
open PySem PySem.Spec PyProof.Rows
noncomputable abbrev WS := List (Option W)
noncomputable abbrev WK := W → OM → Prop
noncomputable abbrev TEW := WS → OM → WK → Prop
noncomputable abbrev TTW := WS → OM → (Bool → OM → Prop) → Prop
noncomputable abbrev TAW := WS → OM → (List W → OM → Prop) → Prop
structure EndsW where
  nx:WS → OM → Prop
  rt:WK
  bk:WS → OM → Prop := fun _ _ => False
  ct:WS → OM → Prop := fun _ _ => False
noncomputable abbrev TSW := EndsW → WS → OM → Prop
noncomputable abbrev TGW := W → WS → OM → (WS → OM → Prop) → Prop
noncomputable abbrev TGsW := List PyData → WS → OM → (WS → OM → Prop) → Prop
noncomputable abbrev R2W := W → W → OM → WK → Prop
section
variable (K:PySem.W.Frag)
noncomputable def RefE (t:TE) (T:TEW):Prop := ∀ Γ O H ρ σ,Sim K Γ O H → relR K Γ ρ σ → ∀ (Q:VK) (R:WK),T ρ O R → (∀ Γ' O' H' w v,Le Γ Γ' → Sim K Γ' O' H' → relW K Γ' w v → R w O' → Q v H') → t σ H Q
noncomputable def x4 (t:TT) (T:TTW):Prop := ∀ Γ O H ρ σ,Sim K Γ O H → relR K Γ ρ σ → ∀ (Q:Bool → Hp → Prop) (R:Bool → OM → Prop),T ρ O R → (∀ Γ' O' H' b,Le Γ Γ' → Sim K Γ' O' H' → R b O' → Q b H') → t σ H Q
noncomputable def xM (t:TA) (T:TAW):Prop := ∀ Γ O H ρ σ,Sim K Γ O H → relR K Γ ρ σ → ∀ (Q:List V → Hp → Prop) (R:List W → OM → Prop),T ρ O R → (∀ Γ' O' H' ws vs,Le Γ Γ' → Sim K Γ' O' H' → relWs K Γ' ws vs → R ws O' → Q vs H') → t σ H Q
structure EndsR (Γ:Gh) (D:Ends) (DW:EndsW):Prop where
  nx:∀ Γ' O' H' ρ' σ',Le Γ Γ' → Sim K Γ' O' H' → relR K Γ' ρ' σ' → DW.nx ρ' O' → D.nx σ' H'
  rt:∀ Γ' O' H' w v,Le Γ Γ' → Sim K Γ' O' H' → relW K Γ' w v → DW.rt w O' → D.rt v H'
  bk:∀ Γ' O' H' ρ' σ',Le Γ Γ' → Sim K Γ' O' H' → relR K Γ' ρ' σ' → DW.bk ρ' O' → D.bk σ' H'
  ct:∀ Γ' O' H' ρ' σ',Le Γ Γ' → Sim K Γ' O' H' → relR K Γ' ρ' σ' → DW.ct ρ' O' → D.ct σ' H'
noncomputable def RefS (t:TS) (T:TSW):Prop := ∀ Γ O H ρ σ D DW,Sim K Γ O H → relR K Γ ρ σ → T DW ρ O → EndsR K Γ D DW → t D σ H
noncomputable def RefG (t:TG) (T:TGW):Prop := ∀ Γ O H ρ σ w v,Sim K Γ O H → relR K Γ ρ σ → relW K Γ w v → ∀ (Q:St → Hp → Prop) (R:WS → OM → Prop),T w ρ O R → (∀ Γ' O' H' ρ' σ',Le Γ Γ' → Sim K Γ' O' H' → relR K Γ' ρ' σ' → R ρ' O' → Q σ' H') → t v σ H Q
noncomputable def RefGs (t:TGs) (T:TGsW):Prop := ∀ Γ O H ρ σ ds vs,Sim K Γ O H → relR K Γ ρ σ → Reps K Γ.Z ds vs → ∀ (Q:St → Hp → Prop) (R:WS → OM → Prop),T ds ρ O R → (∀ Γ' O' H' ρ' σ',Le Γ Γ' → Sim K Γ' O' H' → relR K Γ' ρ' σ' → R ρ' O' → Q σ' H') → t vs σ H Q
noncomputable def RefR (r:R2) (rw:R2W):Prop := ∀ Γ O H x y v u,Sim K Γ O H → relW K Γ x v → relW K Γ y u → ∀ (Q:VK) (R:WK),rw x y O R → (∀ Γ' O' H' w v,Le Γ Γ' → Sim K Γ' O' H' → relW K Γ' w v → R w O' → Q v H') → r v u H Q
noncomputable def RefU (r:V → Hp → VK → Prop) (rw:W → OM → WK → Prop):Prop := ∀ Γ O H x v,Sim K Γ O H → relW K Γ x v → ∀ (Q:VK) (R:WK),rw x O R → (∀ Γ' O' H' w v,Le Γ Γ' → Sim K Γ' O' H' → relW K Γ' w v → R w O' → Q v H') → r v H Q
noncomputable def RefC (r:List V → Hp → VK → Prop) (rw:List W → OM → WK → Prop):Prop := ∀ Γ O H xs vs,Sim K Γ O H → relWs K Γ xs vs → ∀ (Q:VK) (R:WK),rw xs O R → (∀ Γ' O' H' w v,Le Γ Γ' → Sim K Γ' O' H' → relW K Γ' w v → R w O' → Q v H') → r vs H Q
noncomputable def RefM (ty:String) (r:V → List V → Hp → VK → Prop) (rw:W → List W → OM → WK → Prop):Prop := ∀ Γ O H x v xs vs,Sim K Γ O H → relW K Γ x v → relWs K Γ xs vs → ∀ (Q:VK) (R:WK),rw x xs O R → (∀ Γ' O' H' w v,Le Γ Γ' → Sim K Γ' O' H' → relW K Γ' w v → R w O' → Q v H') → r v vs H Q
end
section
variable {K:PySem.W.Frag}
theorem EndsR.mono {Γ Γ':Gh} {D:Ends} {DW:EndsW} (h:EndsR K Γ D DW) (l:Le Γ Γ'):EndsR K Γ' D DW :=
  ⟨fun _ _ _ _ _ l2 => h.nx _ _ _ _ _ (l.trans l2),fun _ _ _ _ _ l2 => h.rt _ _ _ _ _ (l.trans l2),fun _ _ _ _ _ l2 => h.bk _ _ _ _ _ (l.trans l2),fun _ _ _ _ _ l2 => h.ct _ _ _ _ _ (l.trans l2)⟩
noncomputable def ofV:V → W
  | .int i => .d (.int i)
  | .bl b => .d (.bool b)
  | .str x => .d (.str x)
  | _ => .d .none
noncomputable def scV:V → Bool
  | .int _ => true
  | .bl _ => true
  | .str _ => true
  | .non => true
  | _ => false
theorem kT {Γ:Gh} {v:V} (h:scV v = true):relW K Γ (ofV v) v := by
  cases v <;> first | rfl | simp [scV] at h
noncomputable def vOf:PyData → V
  | .int i => .int i
  | .bool b => .bl b
  | .str x => .str x
  | .none => .non
  | _ => .ty ""
noncomputable def scD:PyData → Bool
  | .int _ => true
  | .bool _ => true
  | .str _ => true
  | .none => true
  | _ => false
theorem qV {Z:Hp} {x:PyData} {v:V} (h:Rep K Z x v) (s:scD x = true):v = vOf x := by
  cases x <;> first | exact h | simp [scD] at s
theorem vP {Γ:Gh} {b:Bool}:relW K Γ (.d (.bool b)) (.bl b) := rfl
theorem uO {Γ:Gh} {b:Str}:relW K Γ (.d (.str b)) (.str b) := rfl
theorem Ys {Γ:Gh} {b:Int}:relW K Γ (.d (.int b)) (.int b) := rfl
theorem x9 {Γ:Gh} {a:Addr}:relW K Γ (.own a) (.ref a) := rfl
theorem zeY {Γ:Gh} {x:PyData} {v:V} (h:Rep K Γ.Z x v):relW K Γ (.d x) v := h
theorem qW {Γ:Gh}:relW K Γ (.d .none) .non := rfl
noncomputable def zfN (i:Nat):TEW := fun ρ O R => ∃ w,ρ[i]? = some (some w) ∧ R w O
noncomputable def wC (x:PyData):TEW := fun _ O R => R (.d x) O
theorem zca {i:Nat}:RefE K (UW i) (zfN i) := by
  rintro Γ O H ρ σ S r Q R ⟨w,e,h⟩ k
  obtain ⟨v,e',hv⟩ := r.get e
  exact ⟨v,e',k _ _ _ _ _ (Le.refl _) S hv h⟩
theorem Xj {v:V} {x:PyData} (h:vOf x = v := by rfl) (hs:scD x = true := by rfl):RefE K (tC v) (wC x) := by
  rintro Γ O H ρ σ S r Q R hR k
  subst h
  refine k _ _ _ _ _ (Le.refl _) S ?_ hR
  cases x <;> first | rfl | simp [scD] at hs
theorem zcb {i:Int}:RefE K (tC (.int i)) (wC (.int i)) := Xj
theorem zcc {i:Str}:RefE K (tC (.str i)) (wC (.str i)) := Xj
theorem zdL {i:Bool}:RefE K (tC (.bl i)) (wC (.bool i)) := Xj
theorem zcd:RefE K (tC .non) (wC .none) := Xj
noncomputable def wOp (r:R2W) (Ta Tb:TEW):TEW := fun ρ O R => Ta ρ O fun x O1 => Tb ρ O1 fun y O2 => r x y O2 R
theorem zdM {r:R2} {rw:R2W} {ta tb:TE} {Ta Tb:TEW} (hr:RefR K r rw) (ha:RefE K ta Ta) (hb:RefE K tb Tb):RefE K (tOp r ta tb) (wOp rw Ta Tb) := by
  intro Γ O H ρ σ S r0 Q R h k
  refine ha Γ O H ρ σ S r0 _ _ h fun Γ1 O1 H1 x v l1 S1 rx h1 => ?_
  refine hb Γ1 O1 H1 ρ σ S1 (r0.mono l1) _ _ h1 fun Γ2 O2 H2 y u l2 S2 ry h2 => ?_
  exact hr Γ2 O2 H2 x y v u S2 (rx.mono l2) ry _ _ h2 fun Γ3 O3 H3 w z l3 S3 rz h3 => k Γ3 O3 H3 w z ((l1.trans l2).trans l3) S3 rz h3
noncomputable def wUn (r:W → OM → WK → Prop) (Ta:TEW):TEW := fun ρ O R => Ta ρ O fun x O1 => r x O1 R
theorem zdN {r:V → Hp → VK → Prop} {rw:W → OM → WK → Prop} {ta:TE} {Ta:TEW} (hr:RefU K r rw) (ha:RefE K ta Ta):RefE K (tUn r ta) (wUn rw Ta) := by
  intro Γ O H ρ σ S r0 Q R h k
  refine ha Γ O H ρ σ S r0 _ _ h fun Γ1 O1 H1 x v l1 S1 rx h1 => ?_
  exact hr Γ1 O1 H1 x v S1 rx _ _ h1 fun Γ3 O3 H3 w z l3 S3 rz h3 => k Γ3 O3 H3 w z (l1.trans l3) S3 rz h3
noncomputable def wI0 (g:Int → Int → V):R2W := fun x y O R => ∃ i j,x = .d (.int i) ∧ y = .d (.int j) ∧ R (ofV (g i j)) O
noncomputable def wI (C:Int → Int → Prop) (g:Int → Int → V):R2W := fun x y O R => ∃ i j,x = .d (.int i) ∧ y = .d (.int j) ∧ C i j ∧ R (ofV (g i j)) O
theorem zfO {g:Int → Int → V} (hg:∀ i j,scV (g i j) = true := by intro _ _; rfl):RefR K (rI0 g) (wI0 g) := by
  rintro Γ O H x y v u S rx ry Q R ⟨i,j,rfl,rfl,h⟩ k
  exact ⟨i,j,rx,ry,k _ _ _ _ _ (Le.refl _) S (kT (hg i j)) h⟩
theorem r_I {C:Int → Int → Prop} {g:Int → Int → V} (hg:∀ i j,scV (g i j) = true := by intro _ _; rfl):RefR K (rI C g) (wI C g) := by
  rintro Γ O H x y v u S rx ry Q R ⟨i,j,rfl,rfl,c,h⟩ k
  exact ⟨i,j,rx,ry,c,k _ _ _ _ _ (Le.refl _) S (kT (hg i j)) h⟩
noncomputable def wU (g:Int → V):W → OM → WK → Prop := fun x O R => ∃ i,x = .d (.int i) ∧ R (ofV (g i)) O
theorem r_U {g:Int → V} (hg:∀ i,scV (g i) = true := by intro _; rfl):RefU K (rU g) (wU g) := by
  rintro Γ O H x v S rx Q R ⟨i,rfl,h⟩ k
  exact ⟨i,rx,k _ _ _ _ _ (Le.refl _) S (kT (hg i)) h⟩
noncomputable def wEq:R2W := fun x y O R => ∃ a b,x = .d a ∧ y = .d b ∧ scD a = true ∧ scD b = true ∧ Zi (vOf a) (vOf b) = true ∧ R (.d (.bool (decide (vOf a = vOf b)))) O
noncomputable def wNe:R2W := fun x y O R => ∃ a b,x = .d a ∧ y = .d b ∧ scD a = true ∧ scD b = true ∧ Zi (vOf a) (vOf b) = true ∧ R (.d (.bool (!decide (vOf a = vOf b)))) O
theorem zfP:RefR K rEq wEq := by
  rintro Γ O H x y v u S rx ry Q R ⟨a,b,rfl,rfl,sa,sb,sc,h⟩ k
  rw [qV rx sa,qV ry sb]
  exact ⟨sc,k _ _ _ _ _ (Le.refl _) S vP h⟩
theorem zfQ:RefR K rNe wNe := by
  rintro Γ O H x y v u S rx ry Q R ⟨a,b,rfl,rfl,sa,sb,sc,h⟩ k
  rw [qV rx sa,qV ry sb]
  exact ⟨sc,k _ _ _ _ _ (Le.refl _) S vP h⟩
noncomputable def zdO:R2W := fun x y O R => ∃ a b,ug O x = some a ∧ ug O y = some b ∧ SeqAt.shaped a = true ∧ SeqAt.shaped b = true ∧ R (.d (.bool (PyData.eqv a b))) O
noncomputable def zdP:R2W := fun x y O R => ∃ a b,ug O x = some a ∧ ug O y = some b ∧ SeqAt.shaped a = true ∧ SeqAt.shaped b = true ∧ R (.d (.bool (!PyData.eqv a b))) O
theorem zeZ:RefR K (KG K) zdO := by
  rintro Γ O H x y v u S rx ry Q R ⟨a,b,e1,e2,s1,s2,h⟩ k
  exact ⟨a,b,uV S rx e1,uV S ry e2,s1,s2,k _ _ _ _ _ (Le.refl _) S vP h⟩
theorem ze0:RefR K (KH K) zdP := by
  rintro Γ O H x y v u S rx ry Q R ⟨a,b,e1,e2,s1,s2,h⟩ k
  exact ⟨a,b,uV S rx e1,uV S ry e2,s1,s2,k _ _ _ _ _ (Le.refl _) S vP h⟩
noncomputable def ut:W → Bool
  | .d .none => true
  | _ => false
theorem X0 {Γ:Gh} {w:W} {v:V} (r:relW K Γ w v):decide (v = .non) = ut w := by
  cases w with
  | d x =>
    cases x with
    | none => rw [show v = .non from r]; rfl
    | list ds => obtain ⟨a,_,rfl,_⟩ := r; rfl
    | tuple ds => obtain ⟨a,_,rfl,_⟩ := r; rfl
    | dict _ => obtain ⟨_,a,rfl,_⟩ := r; rfl
    | int i => rw [show v = .int i from r]; rfl
    | bool i => rw [show v = .bl i from r]; rfl
    | str i => rw [show v = .str i from r]; rfl
  | own a => rw [show v = .ref a from r]; rfl
  | row a i => obtain ⟨rs,r0,_,_,rfl⟩ := r; rfl
noncomputable def zfR:R2W := fun x y O R => y = .d .none ∧ R (.d (.bool (ut x))) O
noncomputable def ze1:R2W := fun x y O R => y = .d .none ∧ R (.d (.bool (!ut x))) O
theorem ze2:RefR K (fun x y H Q => y = .non ∧ Q (.bl (decide (x = .non))) H) zfR := by
  rintro Γ O H x y v u S rx ry Q R ⟨rfl,h⟩ k
  refine ⟨ry,k _ _ _ _ _ (Le.refl _) S ?_ h⟩
  rw [X0 rx]; rfl
theorem zdQ:RefR K (fun x y H Q => y = .non ∧ Q (.bl (!decide (x = .non))) H) ze1 := by
  rintro Γ O H x y v u S rx ry Q R ⟨rfl,h⟩ k
  refine ⟨ry,k _ _ _ _ _ (Le.refl _) S ?_ h⟩
  rw [X0 rx]; rfl
noncomputable def Qo (b:Bool):W → Bool
  | .d (.bool c) => decide (c = b)
  | _ => false
theorem zce {Γ:Gh} {w:W} {v:V} {b:Bool} (r:relW K Γ w v):decide (v = .bl b) = Qo b w := by
  cases w with
  | d x =>
    cases x with
    | none => rw [show v = .non from r]; rfl
    | list ds => obtain ⟨a,_,rfl,_⟩ := r; rfl
    | tuple ds => obtain ⟨a,_,rfl,_⟩ := r; rfl
    | dict _ => obtain ⟨_,a,rfl,_⟩ := r; rfl
    | int i => rw [show v = .int i from r]; rfl
    | bool i => rw [show v = .bl i from r]; simp [Qo]
    | str i => rw [show v = .str i from r]; rfl
  | own a => rw [show v = .ref a from r]; rfl
  | row a i => obtain ⟨rs,r0,_,_,rfl⟩ := r; rfl
noncomputable def zdR:R2W := fun x y O R => ∃ b,y = .d (.bool b) ∧ R (.d (.bool (Qo b x))) O
theorem ze3:RefR K (fun x y H Q => ∃ b,y = .bl b ∧ Q (.bl (decide (x = .bl b))) H) zdR := by
  rintro Γ O H x y v u S rx ry Q R ⟨b,rfl,h⟩ k
  refine ⟨b,ry,k _ _ _ _ _ (Le.refl _) S ?_ h⟩
  rw [zce rx]; rfl
noncomputable def zfS:R2W := fun x y O R => ∃ ws i w,y = .d (.int i) ∧ yd O x = some ws ∧ atI ws i = some w ∧ R w O
noncomputable def zdS:R2W := fun x y O R => ∃ ds i e,y = .d (.int i) ∧ xK x = some ds ∧ atI ds i = some e ∧ R (.d e) O
noncomputable def zdT:R2W := fun x y O R => ∃ z i c,x = .d (.str z) ∧ y = .d (.int i) ∧ z.length ≤ sizeLine ∧ atI z.cps.toList i = some c ∧ R (.d (.str ⟨#[c]⟩)) O
theorem ZK {α β:Type} {F:α → β → Prop} {xs:List α} {ys:List β} {i:Int} {x:α} (r:Paired F xs ys) (e:atI xs i = some x):∃ y,atI ys i = some y ∧ F x y := by
  unfold atI at e ⊢
  rw [← Paired.length r]
  cases h:ixN xs.length i with
  | none => rw [h] at e; cases e
  | some j =>
    rw [h] at e
    exact Paired.getP r e
theorem ze4:RefR K (Qc K) zfS := by
  rintro Γ O H x y v u S rx ry Q R ⟨ws,i,w,rfl,e,h1,h⟩ k
  obtain ⟨a,vs,rfl,q1,q2⟩ := xo S rx e
  obtain ⟨z,h2,h3⟩ := ZK q2 h1
  exact ⟨a,vs,i,z,rfl,ry,q1,h2,k _ _ _ _ _ (Le.refl _) S h3 h⟩
theorem ze5:RefR K (Kx K) zdS := by
  rintro Γ O H x y v u S rx ry Q R ⟨ds,i,w,rfl,e,h1,h⟩ k
  obtain ⟨a,vs,rfl,q1,q2⟩ := uf S rx e
  have h1':atI (ds.map W.d) i = some (.d w) := by
    unfold atI at h1 ⊢
    rw [List.length_map]
    cases hj:ixN ds.length i with
    | none => rw [hj] at h1; cases h1
    | some j =>
      rw [hj] at h1
      replace h1:ds[j]? = some w := h1
      show (ds.map W.d)[j]? = some (.d w)
      rw [List.getElem?_map,h1]; rfl
  obtain ⟨z,h2,h3⟩ := ZK q2 h1'
  exact ⟨a,vs,i,z,rfl,ry,q1,h2,k _ _ _ _ _ (Le.refl _) S h3 h⟩
theorem ze6:RefR K zdv zdT := by
  rintro Γ O H x y v u S rx ry Q R ⟨z,i,c,rfl,rfl,hl,h1,h⟩ k
  exact ⟨z,i,c,rx,ry,hl,h1,k _ _ _ _ _ (Le.refl _) S uO h⟩
noncomputable def KQ (T U:TTW):TTW := fun ρ O R => T ρ O fun c O1 => if c = true then U ρ O1 R else R false O1
noncomputable def wOr (T U:TTW):TTW := fun ρ O R => T ρ O fun c O1 => if c = true then R true O1 else U ρ O1 R
noncomputable def KR (T:TTW):TTW := fun ρ O R => T ρ O fun c O1 => R (!c) O1
theorem zcf {t u:TT} {T U:TTW} (h:x4 K t T) (g:x4 K u U):x4 K (zdd t u) (KQ T U) := by
  intro Γ O H ρ σ S r0 Q R hT k
  refine h Γ O H ρ σ S r0 _ _ hT fun Γ1 O1 H1 b l1 S1 h1 => ?_
  cases b with
  | true => rw [if_pos rfl] at h1 ⊢; exact g _ _ _ _ _ S1 (r0.mono l1) _ _ h1 fun Γ2 O2 H2 c l2 S2 h2 => k _ _ _ _ (l1.trans l2) S2 h2
  | false => rw [if_neg (by decide)] at h1 ⊢; exact k _ _ _ _ l1 S1 h1
theorem zdU {t u:TT} {T U:TTW} (h:x4 K t T) (g:x4 K u U):x4 K (tOr t u) (wOr T U) := by
  intro Γ O H ρ σ S r0 Q R hT k
  refine h Γ O H ρ σ S r0 _ _ hT fun Γ1 O1 H1 b l1 S1 h1 => ?_
  cases b with
  | false => rw [if_neg (by decide)] at h1 ⊢; exact g _ _ _ _ _ S1 (r0.mono l1) _ _ h1 fun Γ2 O2 H2 c l2 S2 h2 => k _ _ _ _ (l1.trans l2) S2 h2
  | true => rw [if_pos rfl] at h1 ⊢; exact k _ _ _ _ l1 S1 h1
theorem zcg {t:TT} {T:TTW} (h:x4 K t T):x4 K (zde t) (KR T) := by
  intro Γ O H ρ σ S r0 Q R hT k
  exact h Γ O H ρ σ S r0 _ _ hT fun Γ1 O1 H1 b l1 S1 h1 => k _ _ _ _ l1 S1 h1
noncomputable def zbd (Ta Tb:TEW):TEW := fun ρ O R => Ta ρ O fun x O1 => ∃ c,x = .d (.bool c) ∧ if c = true then Tb ρ O1 R else R (.d (.bool false)) O1
noncomputable def zbe (Ta:TEW):TEW := fun ρ O R => Ta ρ O fun x O1 => ∃ c,x = .d (.bool c) ∧ R (.d (.bool (!c))) O1
theorem KS {ta tb:TE} {Ta Tb:TEW} (ha:RefE K ta Ta) (hb:RefE K tb Tb):RefE K (zaR ta tb) (zbd Ta Tb) := by
  intro Γ O H ρ σ S r0 Q R hT k
  refine ha Γ O H ρ σ S r0 _ _ hT fun Γ1 O1 H1 x v l1 S1 rx h1 => ?_
  obtain ⟨c,rfl,h1⟩ := h1
  refine ⟨c,rx,?_⟩
  cases c with
  | true => rw [if_pos rfl] at h1 ⊢; exact hb _ _ _ _ _ S1 (r0.mono l1) _ _ h1 fun Γ2 O2 H2 y u l2 S2 ry h2 => k _ _ _ _ _ (l1.trans l2) S2 ry h2
  | false => rw [if_neg (by decide)] at h1 ⊢; exact k _ _ _ _ _ l1 S1 vP h1
theorem KU {ta:TE} {Ta:TEW} (ha:RefE K ta Ta):RefE K (zaS ta) (zbe Ta) := by
  intro Γ O H ρ σ S r0 Q R hT k
  refine ha Γ O H ρ σ S r0 _ _ hT fun Γ1 O1 H1 x v l1 S1 rx h1 => ?_
  obtain ⟨c,rfl,h1⟩ := h1
  exact ⟨c,rx,k _ _ _ _ _ l1 S1 vP h1⟩
noncomputable def wIf (T:TTW) (Ta Tb:TEW):TEW := fun ρ O R => T ρ O fun c O1 => if c = true then Ta ρ O1 R else Tb ρ O1 R
theorem zdV {t:TT} {T:TTW} {ta tb:TE} {Ta Tb:TEW} (h:x4 K t T) (ha:RefE K ta Ta) (hb:RefE K tb Tb):RefE K (tIf t ta tb) (wIf T Ta Tb) := by
  intro Γ O H ρ σ S r0 Q R hT k
  refine h Γ O H ρ σ S r0 _ _ hT fun Γ1 O1 H1 b l1 S1 h1 => ?_
  cases b with
  | true => rw [if_pos rfl] at h1 ⊢; exact ha _ _ _ _ _ S1 (r0.mono l1) _ _ h1 fun Γ2 O2 H2 y u l2 S2 ry h2 => k _ _ _ _ _ (l1.trans l2) S2 ry h2
  | false => rw [if_neg (by decide)] at h1 ⊢; exact hb _ _ _ _ _ S1 (r0.mono l1) _ _ h1 fun Γ2 O2 H2 y u l2 S2 ry h2 => k _ _ _ _ _ (l1.trans l2) S2 ry h2
noncomputable def X1 (O:OM):W → Option Bool
  | .d .none => some false
  | .d (.bool b) => some b
  | .d (.int i) => some (i != 0)
  | .d (.str z) => some (z.length != 0)
  | .d (.list ds) => some (!ds.isEmpty)
  | .d (.tuple ds) => some (!ds.isEmpty)
  | .own a => match O a with
    | some (.lst ws) => some (!ws.isEmpty)
    | some (.dK kvs) => some (!kvs.isEmpty)
    | _ => none
  | _ => none
noncomputable def ZL:W → Prop
  | .d (.str z) => z.length ≤ sizeLine
  | _ => True
theorem vK {α β:Type} {F:α → β → Prop} {xs:List α} {ys:List β} (r:Paired F xs ys):xs.isEmpty = ys.isEmpty := by cases r <;> rfl
theorem X2 {Γ:Gh} {O:OM} {H:Hp} {w:W} {v:V} {b:Bool} (S:Sim K Γ O H) (r:relW K Γ w v) (e:X1 O w = some b) (hs:ZL w):Yk K v H b := by
  cases w with
  | d x =>
    cases x with
    | none => rw [show v = .non from r]; cases e; rfl
    | bool i => rw [show v = .bl i from r]; cases e; rfl
    | int i => rw [show v = .int i from r]; cases e; rfl
    | str z =>
      rw [show v = .str z from r]; cases e
      refine ⟨hs,?_⟩
      show (z.length != 0) = ((z.length:Int) != 0)
      cases hz:z.length with
      | zero => rfl
      | succ n => simp only [bne,Nat.beq_eq_true_eq]; simp; omega
    | list ds =>
      cases e
      obtain ⟨a,xs,rfl,h1,h2⟩ := r
      refine .inl ⟨xs,h1.same S.z,?_⟩
      rw [← vK (xl h2:relWs K Γ _ _)]
      simp
    | tuple ds =>
      cases e
      obtain ⟨a,xs,rfl,h1,h2⟩ := r
      refine .inr (.inl ⟨xs,h1.same S.z,?_⟩)
      rw [← vK (xl h2:relWs K Γ _ _)]
      simp
    | dict _ => cases e
  | own a =>
    cases (show v = .ref a from r)
    simp only [X1] at e
    split at e
    · rename_i ws h
      cases e
      obtain ⟨_,vs,h1,h2⟩ := S.o _ _ h
      exact .inl ⟨vs,SqL.of h1,by rw [vK h2]⟩
    · rename_i kvs h
      cases e
      obtain ⟨_,vs,h1,h2⟩ := S.o _ _ h
      exact .inr (.inr ⟨vs,h1,by rw [vK h2]⟩)
    · cases e
  | row a i => cases e
noncomputable def KW (T:TEW):TTW := fun ρ O R => T ρ O fun x O1 => ∃ b,X1 O1 x = some b ∧ ZL x ∧ R b O1
theorem zch {t:TE} {T:TEW} (h:RefE K t T):x4 K (fun σ H Q => t σ H fun x H' => ∃ k,Yk K x H' k ∧ Q k H') (KW T) := by
  intro Γ O H ρ σ S r0 Q R hT k
  refine h Γ O H ρ σ S r0 _ _ hT fun Γ1 O1 H1 x v l1 S1 rx h1 => ?_
  obtain ⟨c,e,hs,h1⟩ := h1
  exact ⟨c,X2 S1 rx e hs,k _ _ _ _ l1 S1 h1⟩
noncomputable def Qp:TAW := fun _ O R => R [] O
noncomputable def Xk (Ta:TEW) (Tr:TAW):TAW := fun ρ O R => Ta ρ O fun x O1 => Tr ρ O1 fun xs O2 => R (x :: xs) O2
theorem zci:xM K j4 Qp := fun Γ O H ρ σ S r0 Q R h k => k _ _ _ _ _ (Le.refl _) S .nil h
theorem KY {ta:TE} {t:TA} {Ta:TEW} {T:TAW} (ha:RefE K ta Ta) (hr:xM K t T):xM K (uJ ta t) (Xk Ta T) := by
  intro Γ O H ρ σ S r0 Q R h k
  refine ha Γ O H ρ σ S r0 _ _ h fun Γ1 O1 H1 x v l1 S1 rx h1 => ?_
  exact hr Γ1 O1 H1 ρ σ S1 (r0.mono l1) _ _ h1 fun Γ2 O2 H2 ws vs l2 S2 rs h2 => k _ _ _ _ _ (l1.trans l2) S2 (.cons (rx.mono l2) rs) h2
noncomputable def zdW (T:TAW):TEW := fun ρ O R => T ρ O fun ws O1 => ∃ ds,xF ws = some ds ∧ ds.length ≤ 1000 ∧ R (.d (.tuple ds)) O1
noncomputable def zdX (T:TAW):TEW := fun ρ O R => T ρ O fun ws O1 => ∃ ds,xF ws = some ds ∧ ds.length ≤ 1000 ∧ R (.d (.list ds)) O1
theorem qX {n:Nat} (h:n ≤ 1000):n ≤ sizeLine := Nat.le_of_lt (vh h)
theorem ka {Γ:Gh} {O:OM} {H:Hp} {ds:List PyData} {vs:List V} {p:Addr} (S:Sim K Γ O H) (hr:Reps K Γ.Z ds vs) (hp:H p = none):∃ Γ',Le Γ Γ' ∧ Sim K Γ' O (upd H p (.tup vs)) ∧ relW K Γ' (.d (.tuple ds)) (.ref p) := by
  obtain ⟨l,S'⟩ := S.newD hp (.tup vs)
  exact ⟨_,l,S',p,vs,rfl,SqT.of zn,Reps.same l.z _ _ hr⟩
theorem qY {Γ:Gh} {O:OM} {H:Hp} {ds:List PyData} {vs:List V} {p:Addr} (S:Sim K Γ O H) (hr:Reps K Γ.Z ds vs) (hp:H p = none):∃ Γ',Le Γ Γ' ∧ Sim K Γ' O (upd H p (.lst vs)) ∧ relW K Γ' (.d (.list ds)) (.ref p) := by
  obtain ⟨l,S'⟩ := S.newD hp (.lst vs)
  exact ⟨_,l,S',p,vs,rfl,SqL.of zn,Reps.same l.z _ _ hr⟩
theorem zcj {Γ:Gh} {O:OM} {H:Hp} {ws:List W} {vs:List V} {p:Addr} (S:Sim K Γ O H) (hr:relWs K Γ ws vs) (hp:H p = none):O p = none ∧ Sim K Γ (updO O p (.lst ws)) (upd H p (.lst vs)) :=
  ⟨(S.free hp).2.1,S.newO hp (by intro _ h; cases h) ⟨vs,zn,hr⟩⟩
theorem zck {t:TA} {T:TAW} (h:xM K t T):RefE K (U9 t) (zdW T) := by
  intro Γ O H ρ σ S r0 Q R hT k
  refine h Γ O H ρ σ S r0 _ _ hT fun Γ1 O1 H1 ws vs l1 S1 rs h1 => ?_
  obtain ⟨ds,e,hl,h1⟩ := h1
  rw [xP e] at rs
  refine ⟨by rw [← Paired.length rs,List.length_map]; exact qX hl,fun p hp => ?_⟩
  obtain ⟨Γ',l,S',r'⟩ := ka S1 (zN rs) hp
  exact k _ _ _ _ _ (l1.trans l) S' r' h1
theorem zcl {t:TA} {T:TAW} (h:xM K t T):RefE K (XH t) (zdX T) := by
  intro Γ O H ρ σ S r0 Q R hT k
  refine h Γ O H ρ σ S r0 _ _ hT fun Γ1 O1 H1 ws vs l1 S1 rs h1 => ?_
  obtain ⟨ds,e,hl,h1⟩ := h1
  rw [xP e] at rs
  refine ⟨by rw [← Paired.length rs,List.length_map]; exact qX hl,fun p hp => ?_⟩
  obtain ⟨Γ',l,S',r'⟩ := qY S1 (zN rs) hp
  exact k _ _ _ _ _ (l1.trans l) S' r' h1
end
end L2
namespace L2
open PySem PySem.Spec PyProof.Rows
noncomputable abbrev SpW := List W → OM → WK → Prop
noncomputable def zb (K:PySem.W.Frag) (s:SpW):Sp := fun vs H Q _ => ∃ Γ O ws R,Sim K Γ O H ∧ relWs K Γ ws vs ∧ s ws O R ∧ ∀ Γ' O' H' w v,Le Γ Γ' → Sim K Γ' O' H' → relW K Γ' w v → R w O' → Q v H'
noncomputable def Clo (R:WK):WK := fun w O => R w O ∨ ∃ a ds,w = .own a ∧ O a = some (.lst (ds.map .d)) ∧ R (.d (.list ds)) (del O a)
noncomputable def uy (N:List Str) (ws:List W):WS := ws.map some ++ List.replicate (N.length - ws.length) none
section
variable {K:PySem.W.Frag}
theorem ZM {Γ:Gh} {N:List Str} {ws:List W} {vs:List V} (h:relWs K Γ ws vs):relR K Γ (uy N ws) (L2.start N vs) := by
  unfold uy L2.start
  rw [Paired.length h]
  refine Paired.appP ?_ ?_
  · induction h with
    | nil => exact .nil
    | cons a b ih => exact .cons a ih
  · generalize N.length - vs.length = n
    induction n with
    | zero => exact .nil
    | succ n ih => exact .cons trivial ih
theorem kU {Γ:Gh} {O:OM} {H:Hp} {w:W} {v:V} {R:WK} {Q:VK} (S:Sim K Γ O H) (r:relW K Γ w v) (h:Clo R w O) (k:∀ Γ' O' H' w v,Le Γ Γ' → Sim K Γ' O' H' → relW K Γ' w v → R w O' → Q v H'):Q v H := by
  rcases h with h | ⟨a,ds,rfl,e,h⟩
  · exact k _ _ _ _ _ (Le.refl _) S r h
  · obtain ⟨Γ',l,S',r'⟩ := S.freeze e
    cases (show v = .ref a from r)
    exact k _ _ _ _ _ l S' r' h
variable {P:Program} {w:World} {mg:Str → Option Value} {base:Heap}
theorem Fun.okW {x qual:Str} {st:Stmt} {f:Addr} {fd:FuncData} {N ps:List Str} {k:Nat} {s:SpW} (F:Fun K x qual st f fd) (S:FnScope N ps (defScope st)) (len:∀ ws O R,s ws O R → ws.length = ps.length)
    (hbody:∀ (cdv:Value) (A:Around) (outer:List Env) (sh:Shared) (H:Hp) (E:XK),Room k (A.deeper (envOfC qual (defScope st) sh.heap.objs.size f cdv)) →
      ∃ t T,PSs (uR CX0 P w K mg base N qual (defScope st) f cdv A outer sh H E).nox (defBody st) t ∧ RefS K t T ∧ ∀ ws O R,s ws O R → T { nx := fun _ O' => Clo R (.d .none) O',rt := Clo R } (uy N ws) O):FnOk P w K mg base CX0 (k + 1) f fd ps (zb K s) := by
  refine F.ok S (fun vs H Q E h => ?_) (fun cdv A outer sh H vs Q E hr h => ?_)
  · obtain ⟨Γ,O,ws,R,S1,r,hs,_⟩ := h
    rw [← Paired.length r]
    exact len ws O R hs
  · obtain ⟨t,T,h1,h2,h3⟩ := hbody cdv A outer sh H E hr
    obtain ⟨Γ,O,ws,R,S1,r,hs,kk⟩ := h
    refine ⟨t,h1,h2 Γ O H _ _ _ _ S1 (ZM r) (h3 ws O R hs) ⟨fun Γ' O' H' ρ' σ' l S' r' h' => ?_,fun Γ' O' H' w v l S' r' h' => ?_,fun _ _ _ _ _ _ _ _ h => h.elim,fun _ _ _ _ _ _ _ _ h => h.elim⟩⟩
    · exact kU S' qW h' fun Γ2 O2 H2 w v l2 => kk _ _ _ _ _ (l.trans l2)
    · exact kU S' r' h' fun Γ2 O2 H2 w v l2 => kk _ _ _ _ _ (l.trans l2)
theorem Fun.okV {x qual:Str} {st:Stmt} {f:Addr} {fd:FuncData} {N ps:List Str} {k:Nat} {s:SpW} {t:TS} {T:TSW} (F:Fun K x qual st f fd) (S:FnScope N ps (defScope st)) (len:∀ ws O R,s ws O R → ws.length = ps.length)
    (hP:∀ (cdv:Value) (A:Around) (outer:List Env) (sh:Shared) (H:Hp) (E:XK),Room k (A.deeper (envOfC qual (defScope st) sh.heap.objs.size f cdv)) → PSs (uR CX0 P w K mg base N qual (defScope st) f cdv A outer sh H E).nox (defBody st) t)
    (hR:RefS K t T) (hb:∀ ws O R,s ws O R → T { nx := fun _ O' => Clo R (.d .none) O',rt := Clo R } (uy N ws) O):FnOk P w K mg base CX0 (k + 1) f fd ps (zb K s) :=
  F.okW S len fun cdv A outer sh H E hr => ⟨t,T,hP cdv A outer sh H E hr,hR,hb⟩
theorem FunD.okW {x qual:Str} {st:Stmt} {ds:List Value} {f:Addr} {fd:FuncData} {N ps:List Str} {k:Nat} {s:SpW} (F:FunD K x qual st ds f fd) (S:FnScope N ps (defScope st)) (len:∀ ws O R,s ws O R → ws.length = ps.length)
    (hbody:∀ (cdv:Value) (A:Around) (outer:List Env) (sh:Shared) (H:Hp) (E:XK),Room k (A.deeper (envOfC qual (defScope st) sh.heap.objs.size f cdv)) →
      ∃ t T,PSs (uR CX0 P w K mg base N qual (defScope st) f cdv A outer sh H E).nox (defBody st) t ∧ RefS K t T ∧ ∀ ws O R,s ws O R → T { nx := fun _ O' => Clo R (.d .none) O',rt := Clo R } (uy N ws) O):FnOk P w K mg base CX0 (k + 1) f fd ps (zb K s) := by
  refine F.ok S (fun vs H Q E h => ?_) (fun cdv A outer sh H vs Q E hr h => ?_)
  · obtain ⟨Γ,O,ws,R,S1,r,hs,_⟩ := h
    rw [← Paired.length r]
    exact len ws O R hs
  · obtain ⟨t,T,h1,h2,h3⟩ := hbody cdv A outer sh H E hr
    obtain ⟨Γ,O,ws,R,S1,r,hs,kk⟩ := h
    refine ⟨t,h1,h2 Γ O H _ _ _ _ S1 (ZM r) (h3 ws O R hs) ⟨fun Γ' O' H' ρ' σ' l S' r' h' => ?_,fun Γ' O' H' w v l S' r' h' => ?_,fun _ _ _ _ _ _ _ _ h => h.elim,fun _ _ _ _ _ _ _ _ h => h.elim⟩⟩
    · exact kU S' qW h' fun Γ2 O2 H2 w v l2 => kk _ _ _ _ _ (l.trans l2)
    · exact kU S' r' h' fun Γ2 O2 H2 w v l2 => kk _ _ _ _ _ (l.trans l2)
theorem FunD.okV {x qual:Str} {st:Stmt} {ds:List Value} {f:Addr} {fd:FuncData} {N ps:List Str} {k:Nat} {s:SpW} {t:TS} {T:TSW} (F:FunD K x qual st ds f fd) (S:FnScope N ps (defScope st)) (len:∀ ws O R,s ws O R → ws.length = ps.length)
    (hP:∀ (cdv:Value) (A:Around) (outer:List Env) (sh:Shared) (H:Hp) (E:XK),Room k (A.deeper (envOfC qual (defScope st) sh.heap.objs.size f cdv)) → PSs (uR CX0 P w K mg base N qual (defScope st) f cdv A outer sh H E).nox (defBody st) t)
    (hR:RefS K t T) (hb:∀ ws O R,s ws O R → T { nx := fun _ O' => Clo R (.d .none) O',rt := Clo R } (uy N ws) O):FnOk P w K mg base CX0 (k + 1) f fd ps (zb K s) :=
  F.okW S len fun cdv A outer sh H E hr => ⟨t,T,hP cdv A outer sh H E hr,hR,hb⟩
end
section
variable {K:PySem.W.Frag}
theorem Zp {Γ:Gh}:∀ {vs:List V},vs.all scV = true → relWs K Γ (vs.map ofV) vs
  | [],_ => .nil
  | v :: vs,h => by
    simp at h
    exact .cons (kT h.1) (Zp (by simpa using h.2))
noncomputable def ZN (s:SpW) (dvs:List V) (T:TAW):TEW := fun ρ O R => T ρ O fun ws O1 => s (ws ++ dvs.map ofV) O1 R
theorem X3 {s:SpW} {dvs:List V} {t:TA} {T:TAW} (h:xM K t T) (hd:dvs.all scV = true := by rfl):RefE K (ZC (zb K s) dvs E0 t) (ZN s dvs T) := by
  intro Γ O H ρ σ S r0 Q R hT k
  refine h Γ O H ρ σ S r0 _ _ hT fun Γ1 O1 H1 ws vs l1 S1 rs h1 => ?_
  exact ⟨Γ1,O1,_,R,S1,Paired.appP rs (Zp hd),h1,fun Γ2 O2 H2 w v l2 S2 r2 h2 => k _ _ _ _ _ (l1.trans l2) S2 r2 h2⟩
noncomputable def wCB (r:List W → OM → WK → Prop) (T:TAW):TEW := fun ρ O R => T ρ O fun ws O1 => r ws O1 R
theorem zdY {r:List V → Hp → VK → Prop} {rw:List W → OM → WK → Prop} {t:TA} {T:TAW} (hr:RefC K r rw) (h:xM K t T):RefE K (tCB r t) (wCB rw T) := by
  intro Γ O H ρ σ S r0 Q R hT k
  refine h Γ O H ρ σ S r0 _ _ hT fun Γ1 O1 H1 ws vs l1 S1 rs h1 => ?_
  exact hr _ _ _ _ _ S1 rs _ _ h1 fun Γ2 O2 H2 w v l2 S2 r2 h2 => k _ _ _ _ _ (l1.trans l2) S2 r2 h2
theorem ZO {Γ:Gh} {f:Str}:∀ {fs:List (Str × W)} {vs:List (Str × V)},yZ K Γ fs vs → (fs.lookup f = none → vs.lookup f = none) ∧ ∀ w,fs.lookup f = some w → ∃ v,vs.lookup f = some v ∧ relW K Γ w v := by
  intro fs vs h
  unfold yZ at h
  induction h with
  | nil => exact ⟨fun _ => rfl,fun w e => by cases e⟩
  | cons a b ih =>
    rename_i p q ps qs
    obtain ⟨k,x⟩ := p
    obtain ⟨k',y⟩ := q
    obtain ⟨e1,e2⟩ := a
    cases (show k = k' from e1)
    simp only [List.lookup_cons]
    cases e:f == k with
    | true => exact ⟨fun z => (by cases z),fun w z => by cases z; exact ⟨_,rfl,e2⟩⟩
    | false => exact ih
noncomputable def zbf (C:Addr) (m:Str) (s:SpW) (Ta:TEW) (T:TAW):TEW := fun ρ O R => Ta ρ O fun x O1 => ∃ a dx fs,x = .own a ∧ O1 a = some (.ins C dx fs) ∧ fs.lookup m = none ∧ T ρ O1 fun ws O2 => s (x :: ws) O2 R
theorem KZ {C:Addr} {m:Str} {s:SpW} {ta:TE} {t:TA} {Ta:TEW} {T:TAW} (ha:RefE K ta Ta) (h:xM K t T):RefE K (Qa C m (zb K s) [] E0 ta t) (zbf C m s Ta T) := by
  intro Γ O H ρ σ S r0 Q R hT k
  refine ha Γ O H ρ σ S r0 _ _ hT fun Γ1 O1 H1 x v l1 S1 rx h1 => ?_
  obtain ⟨a,dx,fs,rfl,ho,hm,h1⟩ := h1
  cases (show v = .ref a from rx)
  obtain ⟨_,vs,q1,q2⟩ := S1.o _ _ ho
  refine ⟨a,dx,vs,rfl,q1,(ZO q2).1 hm,?_⟩
  refine h _ _ _ _ _ S1 (r0.mono l1) _ _ h1 fun Γ2 O2 H2 ws us l2 S2 rs h2 => ?_
  rw [List.append_nil]
  exact ⟨Γ2,O2,_,R,S2,.cons x9 rs,h2,fun Γ3 O3 H3 w v l3 S3 r3 h3 => k _ _ _ _ _ ((l1.trans l2).trans l3) S3 r3 h3⟩
theorem Sim.junk {Γ:Gh} {O:OM} {H:Hp} (S:Sim K Γ O H) {p:Addr} (hp:H p = none) (o:HO):Sim K Γ O (upd H p o) := by
  obtain ⟨hz,hO,hG⟩ := S.free hp
  refine ⟨fun b u e => ?_,fun a oo e => ?_,fun a rs e => ?_,uS S.f (S.f.free hp),S.gn,S.fg,S.fd,S.u⟩
  · rw [zi (fun z => by rw [z,hz] at e; cases e)]; exact S.z _ _ e
  · have hap:a ≠ p := fun z => by rw [z,hO] at e; cases e
    obtain ⟨h1,h2⟩ := S.o _ _ e
    refine ⟨h1,h2.keep (Le.refl _) (zi hap) rfl fun rs r hg ⟨rows,hrw⟩ hr => ?_⟩
    subst hrw
    obtain ⟨_,_,vs,q⟩ := S.rowIn e hg hr
    exact ⟨zi (fun z => by rw [z,hp] at q; cases q),rfl,rfl⟩
  · obtain ⟨o',h⟩ := S.gd _ _ e
    exact ⟨o',by rw [zi (y8 h hp)]; exact h⟩
noncomputable def zbg (C:Addr) (s:SpW) (T:TAW):TEW := fun ρ O R => T ρ O fun ws O1 => ∀ x dx,O1 x = none → s (.own x :: ws) (updO O1 x (.ins C dx [])) fun w O2 => w = .d .none ∧ R (.own x) O2
theorem K0 {C:Addr} {s:SpW} {t:TA} {T:TAW} (h:xM K t T):RefE K (Qb C (zb K s) [] E0 t) (zbg C s T) := by
  intro Γ O H ρ σ S r0 Q R hT k
  refine h _ _ _ _ _ S r0 _ _ hT fun Γ1 O1 H1 ws vs l1 S1 rs h1 => ?_
  intro x dx hx hdx hne
  have hx':upd H1 dx (.own x) x = none := by rw [zi (Ne.symm hne)]; exact hx
  have S2 := S1.junk hdx (.own x)
  have S3 := S2.newO hx' (o := .ins C dx []) (oo := .ins C dx []) (by intro _ h; cases h) ⟨[],zn,.nil⟩
  rw [List.append_nil]
  refine ⟨Γ1,_,_,_,S3,.cons x9 rs,h1 x dx (S2.free hx').2.1,fun Γ2 O2 H2 w v l2 S4 r2 h2 => ?_⟩
  obtain ⟨rfl,h2⟩ := h2
  exact ⟨r2,k _ _ _ _ _ (l1.trans l2) S4 x9 h2⟩
noncomputable def jt (O:OM) (w:W):Option (List PyData) := match xK w with
  | some ds => some ds
  | none => (yd O w).bind xF
theorem UG {Γ:Gh} {O:OM} {H:Hp} {w:W} {v:V} {ds:List PyData} (S:Sim K Γ O H) (r:relW K Γ w v) (e:jt O w = some ds):∃ a vs,v = .ref a ∧ (SqL K H a vs ∨ SqT K H a vs) ∧ Reps K Γ.Z ds vs := by
  unfold jt at e
  split at e
  · rename_i es h
    cases e
    obtain ⟨a,vs,e1,h1,h2⟩ := uf S r h
    exact ⟨a,vs,e1,.inr h1,zN h2⟩
  · cases h:yd O w with
    | none => rw [h] at e; cases e
    | some ws =>
      rw [h] at e
      obtain ⟨a,vs,e1,h1,h2⟩ := xo S r h
      rw [xP (show xF ws = some ds from e)] at h2
      exact ⟨a,vs,e1,.inl h1,zN h2⟩
noncomputable def kb (O:OM) (w:W):Option Nat := match xK w with
  | some ds => some ds.length
  | none => (yd O w).map (·.length)
noncomputable def K1:List W → OM → WK → Prop := fun xs O R => ∃ w n,xs = [w] ∧ kb O w = some n ∧ R (.d (.int n)) O
theorem ze7:RefC K (fun xs H Q => ∃ p ys,xs = [.ref p] ∧ (SqL K H p ys ∨ SqT K H p ys) ∧ Q (.int ys.length) H) K1 := by
  rintro Γ O H xs vs S rs Q R ⟨w,n,rfl,e,h⟩ k
  cases rs with
  | cons rx t =>
    cases t
    unfold kb at e
    split at e
    · rename_i ds hT
      cases e
      obtain ⟨a,vs,e1,h1,h2⟩ := uf S rx hT
      subst e1
      refine ⟨a,vs,rfl,.inr h1,k _ _ _ _ _ (Le.refl _) S ?_ h⟩
      rw [← Paired.length h2,List.length_map]; rfl
    · cases hL:yd O w with
      | none => rw [hL] at e; cases e
      | some ws =>
        rw [hL] at e
        cases e
        obtain ⟨a,vs,e1,h1,h2⟩ := xo S rx hL
        subst e1
        refine ⟨a,vs,rfl,.inl h1,k _ _ _ _ _ (Le.refl _) S ?_ h⟩
        rw [← Paired.length h2]; rfl
noncomputable def X4:List W → OM → WK → Prop := fun xs O R => ∃ w ds,xs = [w] ∧ jt O w = some ds ∧ R (.d (.list ds)) O
theorem zcm:RefC K (fun xs H Q => ∃ p ys,xs = [.ref p] ∧ (SqL K H p ys ∨ SqT K H p ys) ∧ ∀ l,H l = none → Q (.ref l) (upd H l (.lst ys))) X4 := by
  rintro Γ O H xs vs S rs Q R ⟨w,ds,rfl,e,h⟩ k
  cases rs with
  | cons rx t =>
    cases t
    obtain ⟨a,vs,e1,h1,h2⟩ := UG S rx e
    subst e1
    refine ⟨a,vs,rfl,h1,fun l hl => ?_⟩
    obtain ⟨Γ',le,S',r'⟩ := qY S h2 hl
    exact k _ _ _ _ _ le S' r' h
noncomputable def X5:List W → OM → WK → Prop := fun xs O R => ∃ w ds,xs = [w] ∧ jt O w = some ds ∧ R (.d (.tuple ds)) O
theorem zcn:RefC K (fun xs H Q => ∃ p ys,xs = [.ref p] ∧ ((SqL K H p ys ∧ ∀ l,H l = none → Q (.ref l) (upd H l (.tup ys))) ∨ (SqT K H p ys ∧ Q (.ref p) H))) X5 := by
  rintro Γ O H xs vs S rs Q R ⟨w,ds,rfl,e,h⟩ k
  cases rs with
  | cons rx t =>
    cases t
    unfold jt at e
    split at e
    · rename_i es hT
      cases e
      obtain ⟨a,vs,e1,h1,h2⟩ := uf S rx hT
      subst e1
      refine ⟨a,vs,rfl,.inr ⟨h1,k _ _ _ _ _ (Le.refl _) S ?_ h⟩⟩
      cases w with
      | d x => cases x <;> simp [xK] at hT; subst hT; exact rx
      | own b => cases hT
      | row b i => cases hT
    · cases hL:yd O w with
      | none => rw [hL] at e; cases e
      | some ws =>
        rw [hL] at e
        obtain ⟨a,vs,e1,h1,h2⟩ := xo S rx hL
        rw [xP (show xF ws = some ds from e)] at h2
        subst e1
        refine ⟨a,vs,rfl,.inl ⟨h1,fun l hl => ?_⟩⟩
        obtain ⟨Γ',le,S',r'⟩ := ka S (zN h2) hl
        exact k _ _ _ _ _ le S' r' h
noncomputable def wI2 (g:Int → Int → Int):List W → OM → WK → Prop := fun xs O R => ∃ i j,xs = [.d (.int i),.d (.int j)] ∧ R (.d (.int (g i j))) O
theorem zfT {g:Int → Int → Int}:RefC K (fun xs H Q => ∃ i j,xs = [.int i,.int j] ∧ Q (.int (g i j)) H) (wI2 g) := by
  rintro Γ O H xs vs S rs Q R ⟨i,j,rfl,h⟩ k
  cases rs with
  | cons rx t =>
    cases t with
    | cons ry t =>
      cases t
      exact ⟨i,j,by rw [show _ = V.int i from rx,show _ = V.int j from ry],k _ _ _ _ _ (Le.refl _) S Ys h⟩
noncomputable def Xl:TSW := fun D ρ O => D.nx ρ O
noncomputable def x5 (T U:TSW):TSW := fun D ρ O => T { D with nx := U D } ρ O
noncomputable def Xm (T:TEW):TSW := fun D ρ O => T ρ O fun _ O1 => D.nx ρ O1
noncomputable def K2 (T:TEW):TSW := fun D ρ O => T ρ O D.rt
noncomputable def ze8:TSW := fun D _ O => D.rt (.d .none) O
noncomputable def X6 (c:TTW) (T U:TSW):TSW := fun D ρ O => c ρ O fun b O1 => if b = true then T D ρ O1 else U D ρ O1
noncomputable def zdZ:TSW := fun _ _ _ => False
theorem K3:RefS K zaT Xl := fun Γ O H ρ σ D DW S r h e => e.nx _ _ _ _ _ (Le.refl _) S r h
theorem JI:RefS K Ja zdZ := fun Γ O H ρ σ D DW S r h e => h.elim
theorem zco {t u:TS} {T U:TSW} (h:RefS K t T) (g:RefS K u U):RefS K (zdg t u) (x5 T U) := fun Γ O H ρ σ D DW S r hT e =>
  h Γ O H ρ σ { D with nx := u D } { DW with nx := U DW } S r hT ⟨fun Γ' O' H' ρ' σ' l S' r' h' => g _ _ _ _ _ _ _ S' r' h' (e.mono l),e.rt,e.bk,e.ct⟩
theorem K4 {t:TE} {T:TEW} (h:RefE K t T):RefS K (zaU t) (Xm T) := fun Γ O H ρ σ D DW S r hT e =>
  h _ _ _ _ _ S r _ _ hT fun Γ1 O1 H1 w v l S1 r1 h1 => e.nx _ _ _ _ _ l S1 (r.mono l) h1
theorem zcp {t:TE} {T:TEW} (h:RefE K t T):RefS K (zdh t) (K2 T) := fun Γ O H ρ σ D DW S r hT e =>
  h _ _ _ _ _ S r _ _ hT fun Γ1 O1 H1 w v l S1 r1 h1 => e.rt _ _ _ _ _ l S1 r1 h1
theorem zcq {c:TT} {C:TTW} {t u:TS} {T U:TSW} (hc:x4 K c C) (h:RefS K t T) (g:RefS K u U):RefS K (zdi c t u) (X6 C T U) := fun Γ O H ρ σ D DW S r hT e => by
  refine hc _ _ _ _ _ S r _ _ hT fun Γ1 O1 H1 b l S1 h1 => ?_
  cases b with
  | true => rw [if_pos rfl] at h1 ⊢; exact h _ _ _ _ _ _ _ S1 (r.mono l) h1 (e.mono l)
  | false => rw [if_neg (by decide)] at h1 ⊢; exact g _ _ _ _ _ _ _ S1 (r.mono l) h1 (e.mono l)
noncomputable def K5 (T:TEW) (G:TGW):TSW := fun D ρ O => T ρ O fun x O1 => G x ρ O1 D.nx
theorem zcr {t:TE} {T:TEW} {g:TG} {G:TGW} (h:RefE K t T) (hg:RefG K g G):RefS K (XA t g) (K5 T G) := fun Γ O H ρ σ D DW S r hT e =>
  h _ _ _ _ _ S r _ _ hT fun Γ1 O1 H1 w v l S1 r1 h1 => hg _ _ _ _ _ _ _ S1 (r.mono l) r1 _ _ h1 fun Γ2 O2 H2 ρ2 σ2 l2 => e.nx _ _ _ _ _ (l.trans l2)
noncomputable def Xn (i:Nat):TGW := fun w ρ O R => R (ρ.set i (some w)) O
theorem K6 {i:Nat}:RefG K (kL i) (Xn i) := fun Γ O H ρ σ w v S r rw Q R h k => k _ _ _ _ _ (Le.refl _) S (Paired.setP r (show jr K Γ (some w) (some v) from rw)) h
noncomputable def K7:TGsW := fun ds ρ O R => ds = [] ∧ R ρ O
noncomputable def Qq (G:TGW) (U:TGsW):TGsW := fun ds ρ O R => ∃ e es,ds = e :: es ∧ G (.d e) ρ O fun ρ' O' => U es ρ' O' R
theorem K8:RefGs K zdk K7 := by
  rintro Γ O H ρ σ ds vs S r rs Q R ⟨rfl,h⟩ k
  exact ⟨rs,k _ _ _ _ _ (Le.refl _) S r h⟩
theorem JJ {t:TG} {u:TGs} {G:TGW} {U:TGsW} (h:RefG K t G) (g:RefGs K u U):RefGs K (zaV t u) (Qq G U) := by
  rintro Γ O H ρ σ ds vs S r rs Q R ⟨e,es,rfl,hh⟩ k
  obtain ⟨x,xs,rfl,h1,h2⟩ := rs
  refine ⟨x,xs,rfl,h _ _ _ _ _ _ _ S r (zeY h1) _ _ hh fun Γ1 O1 H1 ρ1 σ1 l1 S1 r1 q1 => ?_⟩
  exact g _ _ _ _ _ _ _ S1 r1 (Reps.same l1.z _ _ h2) _ _ q1 fun Γ2 O2 H2 ρ2 σ2 l2 => k _ _ _ _ _ (l1.trans l2)
noncomputable def K9 (n:Nat) (U:TGsW):TGW := fun w ρ O R => ∃ ds,xK w = some ds ∧ ds.length = n ∧ U ds ρ O R
theorem zaa {n:Nat} {t:TGs} {U:TGsW} (h:RefGs K t U):RefG K (Kk K n t) (K9 n U) := by
  rintro Γ O H ρ σ w v S r rw Q R ⟨ds,e,hl,hh⟩ k
  obtain ⟨a,vs,e1,h1,h2⟩ := uf S rw e
  refine ⟨a,vs,e1,h1,by rw [← Paired.length h2,List.length_map]; exact hl,h _ _ _ _ _ _ _ S r (zN h2) _ _ hh k⟩
noncomputable def X7 (O:OM) (o:W) (k:Int) (w:W):Option OM := match o with
  | .own a => match O a with
    | some (.lst ws) => (ixN ws.length k).map fun j => updO O a (.lst (ws.set j w))
    | _ => none
  | .row a r => match O a,w with
    | some (.grid rows),.d x => match rows[r]? with
      | some ds => (ixN ds.length k).map fun j => updO O a (.grid (rows.set r (ds.set j x)))
      | none => none
    | _,_ => none
  | _ => none
noncomputable def zd0 (To Ti:TEW):TGW := fun w ρ O R => To ρ O fun o O1 => Ti ρ O1 fun i O2 => ∃ k O3,i = .d (.int k) ∧ X7 O2 o k w = some O3 ∧ R ρ O3
theorem zab {to ti:TE} {To Ti:TEW} (ho:RefE K to To) (hi:RefE K ti Ti):RefG K (zdm to ti za1) (zd0 To Ti) := by
  rintro Γ O H ρ σ w v S r rw Q R h k
  refine ho _ _ _ _ _ S r _ _ h fun Γ1 O1 H1 o vo l1 S1 ro h1 => ?_
  refine hi _ _ _ _ _ S1 (r.mono l1) _ _ h1 fun Γ2 O2 H2 i vi l2 S2 ri h2 => ?_
  obtain ⟨n,O3,rfl,e,h2⟩ := h2
  have ro2 := ro.mono l2
  have rw2 := rw.mono (l1.trans l2)
  cases (show vi = .int n from ri)
  cases o with
  | d x => cases e
  | own a =>
    cases (show vo = .ref a from ro2)
    simp only [X7] at e
    split at e
    · rename_i ws hO
      cases hj:ixN ws.length n with
      | none => rw [hj] at e; cases e
      | some j =>
        rw [hj] at e
        cases e
        obtain ⟨_,us,q1,q2⟩ := S2.o _ _ hO
        refine ⟨a,us,n,j,rfl,rfl,q1,by rw [← Paired.length q2]; exact hj,?_⟩
        exact k _ _ _ _ _ (l1.trans l2) (S2.put (oo := .lst _) hO (by intro _ h; cases h) (by intro _ h; cases h) ⟨_,zn,Paired.setP q2 rw2⟩) (r.mono (l1.trans l2)) h2
    · cases e
  | row a i =>
    obtain ⟨rs,r0,hg,hr,rfl⟩ := ro2
    simp only [X7] at e
    split at e
    · rename_i rows x hO
      cases hd:rows[i]? with
      | none => rw [hd] at e; cases e
      | some ds =>
        rw [hd] at e
        simp only at e
        cases hj:ixN ds.length n with
        | none => rw [hj] at e; cases e
        | some j =>
          rw [hj] at e
          cases e
          obtain ⟨_,rs',hg',_,hl,_,hrow⟩ := S2.o _ _ hO
          rw [hg] at hg'
          cases hg'
          obtain ⟨_,_,us,q1,q2⟩ := hrow i r0 ds hr hd
          refine ⟨r0,us,n,j,rfl,rfl,q1,by rw [← Reps.length q2]; exact hj,?_⟩
          exact k _ _ _ _ _ (l1.trans l2) (S2.cell hO hg hr hd q1 rw2) (r.mono (l1.trans l2)) h2
    · cases e
end
end L2
namespace L2
open PySem PySem.Spec PyProof.Rows
section
variable {K:PySem.W.Frag}
noncomputable def zd1 (K:PySem.W.Frag) (Γ:Gh) (J:It) (ws:List W) (keep:OM → Prop):Prop := ∀ i Γ' O' H',Same Γ.Z Γ'.Z → (∀ a rs,Γ.G a = some rs → ∃ more,Γ'.G a = some (rs ++ more)) → Sim K Γ' O' H' → keep O' →
  (∀ w,ws[i]? = some w → J.go i H' ∧ ∀ x H2,J.yld i H' x H2 → ∃ Γ2,Le Γ' Γ2 ∧ Sim K Γ2 O' H2 ∧ relW K Γ2 w x) ∧ (i = ws.length → J.stop i H')
noncomputable abbrev TIW := WS → OM → (List W → (OM → Prop) → OM → Prop) → Prop
noncomputable def uz (K:PySem.W.Frag) (t:TI) (T:TIW):Prop := ∀ Γ O H ρ σ,Sim K Γ O H → relR K Γ ρ σ → ∀ (Q:It → Hp → Prop) (R:List W → (OM → Prop) → OM → Prop),T ρ O R → (∀ Γ' O' H' J ws keep,Le Γ Γ' → Sim K Γ' O' H' → zd1 K Γ' J ws keep → R ws keep O' → Q J H') → t σ H Q
theorem relW.up {Γ Γ':Gh} (hz:Same Γ.Z Γ'.Z) (hg:∀ a rs,Γ.G a = some rs → ∃ more,Γ'.G a = some (rs ++ more)) {w:W} {v:V} (h:relW K Γ w v):relW K Γ' w v := by
  have h1:relW K ⟨Γ'.Z,Γ'.G,Γ.F⟩ w v := relW.mono (Γ := Γ) (Γ' := ⟨Γ'.Z,Γ'.G,Γ.F⟩) ⟨rfl,hz,hg⟩ h
  cases w <;> exact h1
noncomputable def zbh (T:TEW):TIW := fun ρ O R => T ρ O fun w O1 => ∃ ws,yd O1 w = some ws ∧ R ws (fun O' => yd O' w = some ws) O1
theorem JK {t:TE} {T:TEW} (h:RefE K t T):uz K (UZ K t) (zbh T) := by
  intro Γ O H ρ σ S r Q R hT k
  refine h _ _ _ _ _ S r _ _ hT fun Γ1 O1 H1 w v l1 S1 r1 h1 => ?_
  obtain ⟨ws,e,h1⟩ := h1
  obtain ⟨a,vs,rfl,q1,q2⟩ := xo S1 r1 e
  refine ⟨a,rfl,⟨vs,q1⟩,k _ _ _ _ _ _ l1 S1 (fun i Γ' O' H' hz hg S' e' => ?_) h1⟩
  obtain ⟨a',vs',ea,q1',q2'⟩ := xo S' (r1.up hz hg) e'
  cases ea
  refine ⟨fun w' hw => ?_,fun hi => ⟨vs',q1',by rw [← Paired.length q2',hi]; exact Nat.le_refl _⟩⟩
  obtain ⟨x,hx,rx⟩ := Paired.getP q2' hw
  refine ⟨⟨vs',x,q1',hx⟩,fun y H2 ⟨e2,hy⟩ => ?_⟩
  subst e2
  have := hy vs' q1'
  rw [hx] at this
  cases this
  exact ⟨Γ',Le.refl _,S',rx⟩
noncomputable def zd2 (T:TEW):TIW := fun ρ O R => T ρ O fun w O1 => ∃ ds,xK w = some ds ∧ R (ds.map .d) (fun _ => True) O1
theorem zac {t:TE} {T:TEW} (h:RefE K t T):uz K (Kl K t) (zd2 T) := by
  intro Γ O H ρ σ S r Q R hT k
  refine h _ _ _ _ _ S r _ _ hT fun Γ1 O1 H1 w v l1 S1 r1 h1 => ?_
  obtain ⟨ds,e,h1⟩ := h1
  obtain ⟨a,vs,rfl,q1,q2⟩ := uf S1 r1 e
  refine ⟨a,rfl,⟨vs,q1⟩,k _ _ _ _ _ _ l1 S1 (fun i Γ' O' H' hz hg S' e' => ?_) h1⟩
  obtain ⟨a',vs',ea,q1',q2'⟩ := uf S' (r1.up hz hg) e
  cases ea
  refine ⟨fun w' hw => ?_,fun hi => ⟨vs',q1',by rw [← Paired.length q2',hi]; exact Nat.le_refl _⟩⟩
  obtain ⟨x,hx,rx⟩ := Paired.getP q2' hw
  refine ⟨⟨vs',x,q1',hx⟩,fun y H2 ⟨e2,hy⟩ => ?_⟩
  subst e2
  have := hy vs' q1'
  rw [hx] at this
  cases this
  exact ⟨Γ',Le.refl _,S',rx⟩
theorem X8 {Γ:Gh} {n:Nat} {f:Nat → Int} {J:It} (hgo:∀ i H,i < n → J.go i H) (hy:∀ i H x H',J.yld i H x H' → H' = H ∧ x = .int (f i)) (hs:∀ i H,n ≤ i → J.stop i H):zd1 K Γ J ((List.range n).map fun i => .d (.int (f i))) fun _ => True := by
  intro i Γ' O' H' hz hg S' _
  refine ⟨fun w hw => ?_,fun hi => hs i _ (by rw [hi]; simp)⟩
  rw [List.getElem?_map] at hw
  cases hr:(List.range n)[i]? with
  | none => rw [hr] at hw; cases hw
  | some j =>
    rw [hr] at hw
    cases hw
    obtain ⟨hi,hj⟩ := List.getElem?_eq_some_iff.mp hr
    simp at hi hj
    subst hj
    refine ⟨hgo i _ hi,fun x H2 y => ?_⟩
    obtain ⟨rfl,rfl⟩ := hy i _ x H2 y
    exact ⟨Γ',Le.refl _,S',Ys⟩
noncomputable def zbi (T:TAW):TIW := fun ρ O R => T ρ O fun ws O1 => ∃ j:Int,ws = [.d (.int j)] ∧ -(2 ^ 62) ≤ j ∧ j < 2 ^ 62 ∧ R ((List.range j.toNat).map fun (i:Nat) => .d (.int i)) (fun _ => True) O1
theorem JL {t:TA} {T:TAW} (h:xM K t T):uz K (zaW t) (zbi T) := by
  intro Γ O H ρ σ S r Q R hT k
  refine h _ _ _ _ _ S r _ _ hT fun Γ1 O1 H1 ws vs l1 S1 r1 h1 => ?_
  obtain ⟨j,rfl,b1,b2,h1⟩ := h1
  cases r1 with
  | cons rx t =>
    cases t
    refine ⟨j,by rw [show _ = V.int j from rx],b1,b2,k _ _ _ _ _ _ l1 S1 (X8 (f := fun i => (i:Int)) (fun i H hi => hi) (fun i H x H' ⟨e1,e2⟩ => ⟨e1,by rw [e2,Int.zero_add]⟩) fun i H hi => hi) h1⟩
noncomputable def zbj (T:TAW):TIW := fun ρ O R => T ρ O fun ws O1 => ∃ i j:Int,ws = [.d (.int i),.d (.int j)] ∧ (-(2 ^ 62) ≤ i ∧ i < 2 ^ 62 ∧ -(2 ^ 62) ≤ j ∧ j < 2 ^ 62) ∧ R ((List.range (j - i).toNat).map fun (k:Nat) => .d (.int (i + k))) (fun _ => True) O1
theorem JM {t:TA} {T:TAW} (h:xM K t T):uz K (zaX t) (zbj T) := by
  intro Γ O H ρ σ S r Q R hT k
  refine h _ _ _ _ _ S r _ _ hT fun Γ1 O1 H1 ws vs l1 S1 r1 h1 => ?_
  obtain ⟨i,j,rfl,b,h1⟩ := h1
  cases r1 with
  | cons rx t =>
    cases t with
    | cons ry t =>
      cases t
      exact ⟨i,j,by rw [show _ = V.int i from rx,show _ = V.int j from ry],b,k _ _ _ _ _ _ l1 S1 (X8 (f := fun k => i + (k:Int)) (fun i H hi => hi) (fun i H x H' ⟨e1,e2⟩ => ⟨e1,e2⟩) fun i H hi => hi) h1⟩
noncomputable def zbk (T:TAW):TIW := fun ρ O R => T ρ O fun ws O1 => ∃ (i j c:Int) (n:Nat),ws = [.d (.int i),.d (.int j),.d (.int c)] ∧ R3 i j c n ∧ R ((List.range n).map fun (k:Nat) => .d (.int (i + k * c))) (fun _ => True) O1
theorem JN {t:TA} {T:TAW} (h:xM K t T):uz K (za8 t) (zbk T) := by
  intro Γ O H ρ σ S r Q R hT k
  refine h _ _ _ _ _ S r _ _ hT fun Γ1 O1 H1 ws vs l1 S1 r1 h1 => ?_
  obtain ⟨i,j,c,n,rfl,b,h1⟩ := h1
  cases r1 with
  | cons rx t =>
    cases t with
    | cons ry t =>
      cases t with
      | cons rz t =>
        cases t
        exact ⟨i,j,c,n,by rw [show _ = V.int i from rx,show _ = V.int j from ry,show _ = V.int c from rz],b,k _ _ _ _ _ _ l1 S1 (X8 (f := fun k => i + (k:Int) * c) (fun i H hi => hi) (fun i H x H' ⟨e1,e2⟩ => ⟨e1,e2⟩) fun i H hi => hi) h1⟩
noncomputable def zbl (T:TAW):TIW := fun ρ O R => T ρ O fun ws O1 => ∃ w us ds,ws = [w] ∧ yd O1 w = some us ∧ xF us = some ds ∧ R ((List.range ds.length).zipWith (fun (i:Nat) d => W.d (.tuple [.int i,d])) ds) (fun O' => yd O' w = some us) O1
theorem JO {t:TA} {T:TAW} (h:xM K t T):uz K (Qi K t) (zbl T) := by
  intro Γ O H ρ σ S r Q R hT k
  refine h _ _ _ _ _ S r _ _ hT fun Γ1 O1 H1 ws vs l1 S1 r1 h1 => ?_
  obtain ⟨w,us,ds,rfl,e,hd,h1⟩ := h1
  cases r1 with
  | cons rx t =>
    cases t
    obtain ⟨a,vs,rfl,q1,q2⟩ := xo S1 rx e
    refine ⟨a,rfl,⟨vs,q1⟩,k _ _ _ _ _ _ l1 S1 (fun i Γ' O' H' hz hg S' e' => ?_) h1⟩
    obtain ⟨a',vs',ea,q1',q2'⟩ := xo S' (rx.up hz hg) e'
    cases ea
    rw [xP hd] at q2'
    have hl:ds.length = vs'.length := by rw [← Paired.length q2',List.length_map]
    refine ⟨fun w' hw => ?_,fun hi => ⟨vs',q1',by rw [hi]; simp; omega⟩⟩
    rw [List.getElem?_zipWith] at hw
    cases hr:(List.range ds.length)[i]? with
    | none => rw [hr] at hw; cases hw
    | some j =>
      rw [hr] at hw
      cases hdi:ds[i]? with
      | none => rw [hdi] at hw; cases hw
      | some d =>
        rw [hdi] at hw
        cases hw
        obtain ⟨hi,hj⟩ := List.getElem?_eq_some_iff.mp hr
        simp at hi hj
        subst hj
        obtain ⟨x,hx,rx'⟩ := Paired.getP q2' (i := i) (x := .d d) (by rw [List.getElem?_map,hdi]; rfl)
        refine ⟨⟨vs',x,q1',hx⟩,fun y H2 ⟨t,y',e1,e2,e3,hy⟩ => ?_⟩
        have hy' := hy vs' q1'
        rw [hx] at hy'
        cases hy'
        subst e1 e3
        obtain ⟨Γ2,l2,S2,r2⟩ := ka S' (ds := [.int i,d]) (vs := [.int i,x]) ⟨_,_,rfl,rfl,_,_,rfl,rx',rfl⟩ e2
        exact ⟨Γ2,l2,S2,r2⟩
noncomputable def xV (ws:List W) (keep:OM → Prop) (G:TGW) (TB:TSW) (D:EndsW) (ρ:WS) (O:OM):Prop := ∃ Pv:Nat → WS → OM → Prop,Pv 0 ρ O ∧ (∀ i ρ O,Pv i ρ O → keep O) ∧
  (∀ i w ρ O,ws[i]? = some w → Pv i ρ O → G w ρ O fun ρ' O' => TB { D with nx := Pv (i + 1),ct := Pv (i + 1),bk := D.nx } ρ' O') ∧ ∀ ρ O,Pv ws.length ρ O → D.nx ρ O
noncomputable def zd3 (Wi:TIW) (G:TGW) (TB:TSW):TSW := fun D ρ O => Wi ρ O fun ws keep O1 => xV ws keep G TB D ρ O1
theorem zcs {wi:TI} {Wi:TIW} {g:TG} {G:TGW} {tb:TS} {TB:TSW} (hi:uz K wi Wi) (hg:RefG K g G) (hb:RefS K tb TB):RefS K (zdp wi g tb) (zd3 Wi G TB) := by
  intro Γ O H ρ σ D DW S r hT e
  refine hi _ _ _ _ _ S r _ _ hT fun Γ1 O1 H1 J ws keep l1 S1 ok h1 => ?_
  obtain ⟨Pv,p0,pk,ps,pd⟩ := h1
  refine ⟨fun i m σ' H' => i ≤ ws.length ∧ m = ws.length - i ∧ ∃ Γ' O' ρ',Le Γ1 Γ' ∧ Sim K Γ' O' H' ∧ relR K Γ' ρ' σ' ∧ Pv i ρ' O',⟨_,Nat.zero_le _,rfl,Γ1,O1,ρ,Le.refl _,S1,r.mono l1,p0⟩,?_⟩
  rintro i m σ' H' ⟨hi,rfl,Γ',O',ρ',l',S',r',p'⟩
  obtain ⟨ok1,ok2⟩ := ok i Γ' O' H' l'.z l'.g S' (pk _ _ _ p')
  by_cases hlt:i < ws.length
  · obtain ⟨go,y⟩ := ok1 _ (List.getElem?_eq_getElem hlt)
    refine .inr ⟨go,fun σ2 H2 => ∃ Γ2 O2 ρ2,Le Γ1 Γ2 ∧ Sim K Γ2 O2 H2 ∧ relR K Γ2 ρ2 σ2 ∧ Pv (i + 1) ρ2 O2,fun σ2 H2 ⟨Γ2,O2,ρ2,l2,S2,r2,p2⟩ => ⟨ws.length - (i + 1),by omega,hlt,rfl,Γ2,O2,ρ2,l2,S2,r2,p2⟩,fun x H2 hy => ?_⟩
    obtain ⟨Γ2,l2,S2,rx⟩ := y x H2 hy
    refine hg _ _ _ _ _ _ _ S2 (r'.mono l2) rx _ _ (ps i _ ρ' O' (List.getElem?_eq_getElem hlt) p') fun Γ3 O3 H3 ρ3 σ3 l3 S3 r3 h3 => ?_
    have l13 := (l'.trans l2).trans l3
    refine hb _ _ _ _ _ _ _ S3 r3 h3 ⟨fun Γ4 O4 H4 ρ4 σ4 l4 S4 r4 h4 => ⟨Γ4,O4,ρ4,l13.trans l4,S4,r4,h4⟩,fun Γ4 O4 H4 w v l4 => e.rt _ _ _ _ _ ((l1.trans l13).trans l4),fun Γ4 O4 H4 ρ4 σ4 l4 => e.nx _ _ _ _ _ ((l1.trans l13).trans l4),fun Γ4 O4 H4 ρ4 σ4 l4 S4 r4 h4 => ⟨Γ4,O4,ρ4,l13.trans l4,S4,r4,h4⟩⟩
  · have hi2:i = ws.length := by omega
    refine .inl ⟨ok2 hi2,e.nx _ _ _ _ _ (l1.trans l') S' r' (pd _ _ ?_)⟩
    rw [← hi2]; exact p'
noncomputable def xa (js:List Nat) (ρ:WS):WS := js.map fun j => (ρ[j]?).join
theorem qp {Γ:Gh} {ρ:WS} {σ:St} (r:relR K Γ ρ σ) (n:Nat) (js:List Nat):relR K Γ (List.replicate n none ++ xa js ρ) (jq n js σ) := by
  refine Paired.appP ?_ ?_
  · induction n with
    | zero => exact .nil
    | succ n ih => exact .cons trivial ih
  · unfold xa
    induction js with
    | nil => exact .nil
    | cons j js ih =>
      refine .cons ?_ ih
      show jr K Γ (ρ[j]?.join) (σ[j]?.join)
      cases h:ρ[j]? with
      | none => exact trivial
      | some o =>
        cases o with
        | none => exact trivial
        | some w =>
          obtain ⟨v,hv,rv⟩ := r.get h
          rw [hv]
          exact rv
noncomputable def ZP (G:TGW) (T:TTW) (E:TEW) (n:Nat) (xN:WS) (w:W) (ρ:WS) (O:OM) (k:Option W → OM → Prop):Prop :=
  G w ρ O fun ρ1 O1 => (ρ1.length = n + xN.length ∧ ρ1.drop n = xN) ∧ T ρ1 O1 fun ok O2 => if ok = true then E ρ1 O2 fun y O3 => k (some y) O3 else k none O2
noncomputable def wLc (Wi:TIW) (n:Nat) (js:List Nat) (G:TGW) (T:TTW) (E:TEW):TEW := fun ρ O R => Wi ρ O fun ws keep O1 => keep O1 ∧ ws.length ≤ 1000 ∧ ∃ F:W → Option PyData,
  (∀ w ∈ ws,∀ us:WS,us.length = n → ZP G T E n (xa js ρ) w (us ++ xa js ρ) O1 fun y O2 => O2 = O1 ∧ y = (F w).map .d) ∧ R (.d (.list (ws.filterMap F))) O1
theorem ju {n:Nat} {xN ρ:WS} (h1:ρ.length = n + xN.length) (h2:ρ.drop n = xN):∃ us:WS,us.length = n ∧ ρ = us ++ xN := ⟨ρ.take n,by rw [List.length_take]; omega,by rw [← h2,List.take_append_drop]⟩
theorem zd4 {wi:TI} {Wi:TIW} {n:Nat} {js:List Nat} {g:TG} {G:TGW} {tt:TT} {T:TTW} {te:TE} {E:TEW} (hi:uz K wi Wi) (hg:RefG K g G) (ht:x4 K tt T) (he:RefE K te E):RefE K (tLc wi n js g tt te) (wLc Wi n js G T E) := by
  intro Γ O H ρ σ S r Q R hT k
  refine hi _ _ _ _ _ S r _ _ hT fun Γ1 O1 H1 J ws keep l1 S1 ok h1 => ?_
  obtain ⟨hk,hlen,F,hF,hR⟩ := h1
  intro D hD
  have hFD:Γ1.F D = none := S1.f.free hD
  have r1 := qp (r.mono l1) n js
  refine ⟨fun i m σ' H' => i ≤ ws.length ∧ m = ws.length - i ∧ ∃ Γ' ρ' vs,Same Γ1.Z Γ'.Z ∧ (∀ a rs,Γ1.G a = some rs → ∃ more,Γ'.G a = some (rs ++ more)) ∧ Γ'.F = upd Γ1.F D (.lst vs) ∧ Sim K Γ' O1 H' ∧ relR K Γ' ρ' σ' ∧
    ρ'.length = n + (xa js ρ).length ∧ ρ'.drop n = xa js ρ ∧ Reps K Γ'.Z ((ws.take i).filterMap F) vs,⟨_,Nat.zero_le _,rfl,_,_,[],Same.refl _,fun a rs h => ⟨[],by rw [List.append_nil]; exact h⟩,rfl,S1.frameNew hD (.lst []),r1.setF,by simp,by simp,rfl⟩,?_⟩
  rintro i m σ' H' ⟨hi,rfl,Γ',ρ',vs,z',g',f',S',r',n1,n2,rp⟩
  obtain ⟨ok1,ok2⟩ := ok i Γ' O1 H' z' g' S' hk
  have hvl:vs.length ≤ i := by
    rw [← Reps.length rp]
    exact Nat.le_trans (List.length_filterMap_le _ _) (by rw [List.length_take]; omega)
  by_cases hlt:i < ws.length
  · obtain ⟨go,y⟩ := ok1 _ (List.getElem?_eq_getElem hlt)
    refine .inr ⟨go,fun σ2 H2 => ∃ Γ2 ρ2 vs2,Same Γ1.Z Γ2.Z ∧ (∀ a rs,Γ1.G a = some rs → ∃ more,Γ2.G a = some (rs ++ more)) ∧ Γ2.F = upd Γ1.F D (.lst vs2) ∧ Sim K Γ2 O1 H2 ∧ relR K Γ2 ρ2 σ2 ∧
      ρ2.length = n + (xa js ρ).length ∧ ρ2.drop n = xa js ρ ∧ Reps K Γ2.Z ((ws.take (i + 1)).filterMap F) vs2,fun σ2 H2 h => ⟨ws.length - (i + 1),by omega,hlt,rfl,h⟩,fun x H2 hy => ?_⟩
    obtain ⟨Γ2,l2,S2,rx⟩ := y x H2 hy
    obtain ⟨us,hus,rfl⟩ := ju n1 n2
    have et:ws.take (i + 1) = ws.take i ++ [ws[i]] := (List.take_append_getElem hlt).symm
    refine hg _ _ _ _ _ _ _ S2 (r'.mono l2) rx _ _ (hF _ (List.getElem_mem hlt) us hus) fun Γ3 O3 H3 ρ3 σ3 l3 S3 r3 h3 => ?_
    obtain ⟨⟨m1,m2⟩,h3⟩ := h3
    refine ht _ _ _ _ _ S3 r3 _ _ h3 fun Γ4 O4 H4 b l4 S4 h4 => ?_
    have l24 := (l2.trans l3).trans l4
    have up:∀ Γ5,Le Γ' Γ5 → Same Γ1.Z Γ5.Z ∧ (∀ a rs,Γ1.G a = some rs → ∃ more,Γ5.G a = some (rs ++ more)) := fun Γ5 l => ⟨z'.trans l.z,fun a rs h => by
      obtain ⟨m,e⟩ := g' a rs h
      obtain ⟨m2,e2⟩ := l.g a _ e
      exact ⟨m ++ m2,by rw [← List.append_assoc]; exact e2⟩⟩
    cases b with
    | true =>
      rw [if_pos rfl] at h4 ⊢
      refine he _ _ _ _ _ S4 (r3.mono l4) _ _ h4 fun Γ5 O5 H5 w5 v5 l5 S5 r5 h5 => ?_
      obtain ⟨rfl,h5⟩ := h5
      have l25 := l24.trans l5
      cases hFw:F ws[i] with
      | none => rw [hFw] at h5; cases h5
      | some d =>
        rw [hFw] at h5
        cases h5
        have f5:Γ5.F = upd Γ1.F D (.lst vs) := by rw [l25.f,f']
        have fD:Γ5.F D = some (.lst vs) := by rw [f5,zn]
        refine ⟨vs,S5.f _ _ fD,vh (by omega),?_⟩
        obtain ⟨u1,u2⟩ := up Γ5 l25
        refine ⟨⟨Γ5.Z,Γ5.G,upd Γ5.F D (.lst (vs ++ [v5]))⟩,ρ3,vs ++ [v5],u1,u2,?_,S5.framePut fD _,((r3.mono l4).mono l5).setF,m1,m2,?_⟩
        · show upd Γ5.F D _ = _
          rw [f5,Yg]
        · rw [et,List.filterMap_append]
          have:([ws[i]]:List W).filterMap F = [d] := by simp [hFw]
          rw [this]
          exact Reps.snoc (Reps.same l25.z _ _ rp) r5
    | false =>
      rw [if_neg (by decide)] at h4 ⊢
      obtain ⟨rfl,h4⟩ := h4
      obtain ⟨u1,u2⟩ := up Γ4 l24
      refine ⟨Γ4,ρ3,vs,u1,u2,by rw [l24.f,f'],S4,r3.mono l4,m1,m2,?_⟩
      cases hFw:F ws[i] with
      | some d => rw [hFw] at h4; cases h4
      | none =>
        rw [et,List.filterMap_append]
        have:([ws[i]]:List W).filterMap F = [] := by simp [hFw]
        rw [this,List.append_nil]
        exact Reps.same l24.z _ _ rp
  · have hi2:i = ws.length := by omega
    subst hi2
    refine .inl ⟨ok2 rfl,?_⟩
    rw [List.take_length] at rp
    obtain ⟨q1,q2,q3⟩ := S'.unframe f' hFD rp
    exact k ⟨upd Γ'.Z D (.lst vs),Γ'.G,Γ1.F⟩ _ _ _ _ (l1.trans ⟨rfl,z'.trans q1,g'⟩) q2 q3 hR
end
end L2
namespace L2
open PySem PySem.Spec PyProof.Rows
section
variable {K:PySem.W.Frag}
noncomputable def xi {α:Type} (f:Str) (v:α):List (Str × α) → List (Str × α)
  | [] => [(f,v)]
  | (g,x) :: r => if g = f then (g,v) :: r else (g,x) :: xi f v r
theorem Qr {Γ:Gh} {f:Str} {w:W} {v:V} (r:relW K Γ w v) {fs:List (Str × W)} {vs:List (Str × V)} (h:yZ K Γ fs vs):yZ K Γ (xi f w fs) (vc f v vs) := by
  unfold yZ at h ⊢
  induction h with
  | nil => exact .cons ⟨rfl,r⟩ .nil
  | cons a b ih =>
    rename_i p q ps qs
    obtain ⟨k,x⟩ := p
    obtain ⟨k',y⟩ := q
    obtain ⟨e1,e2⟩ := a
    cases (show k = k' from e1)
    simp only [xi,vc]
    split
    · exact .cons ⟨rfl,r⟩ b
    · exact .cons ⟨rfl,e2⟩ ih
noncomputable def Zq:W → Option Key
  | .d (.int i) => some (.inl i)
  | .d (.str x) => some (.inr x)
  | _ => none
theorem Yt {Γ:Gh} {w:W} {v:V} {k:Key} (r:relW K Γ w v) (e:Zq w = some k):v = kV k := by
  cases w with
  | d x =>
    cases x <;> simp [Zq] at e
    · subst e; exact r
    · subst e; exact r
  | own a => cases e
  | row a i => cases e
section
variable {κ α:Type} [DecidableEq κ]
noncomputable def xY (kvs:List (κ × α)) (k:κ):Option α := (kvs.find? fun kv => decide (kv.1 = k)).map (·.2)
noncomputable def xE (kvs:List (κ × α)) (k:κ) (v:α):List (κ × α) := if (kvs.any fun kv => decide (kv.1 = k)) = true then kvs.map (fun kv => if kv.1 = k then (kv.1,v) else kv) else kvs ++ [(k,v)]
noncomputable def vj (kvs more:List (κ × α)):List (κ × α) := more.foldl (fun acc kv => xE acc kv.1 kv.2) kvs
end
theorem JP {Γ:Gh} {k:Key} {kvs:List (Key × W)} {vs:List (Key × V)} (h:yZ K Γ kvs vs):(xY kvs k = none → vM vs k = none) ∧ ∀ w,xY kvs k = some w → ∃ v,vM vs k = some v ∧ relW K Γ w v := by
  unfold yZ at h
  induction h with
  | nil => exact ⟨fun _ => rfl,fun w e => by cases e⟩
  | cons a b ih =>
    rename_i p q ps qs
    obtain ⟨k1,x⟩ := p
    obtain ⟨k',y⟩ := q
    obtain ⟨e1,e2⟩ := a
    cases (show k1 = k' from e1)
    simp only [xY,vM,List.find?_cons] at ih ⊢
    by_cases hk:k1 = k
    · simp [hk]; exact e2
    · simp only [hk,decide_false]; exact ih
theorem JQ {Γ:Gh} {k:Key} {kvs:List (Key × W)} {vs:List (Key × V)} (h:yZ K Γ kvs vs):(kvs.any fun kv => decide (kv.1 = k)) = vs.any fun kv => decide (kv.1 = k) := by
  unfold yZ at h
  induction h with
  | nil => rfl
  | cons a b ih => rw [List.any_cons,List.any_cons,a.1,ih]
theorem YX {Γ:Gh} {k:Key} {w:W} {v:V} (r:relW K Γ w v) {kvs:List (Key × W)} {vs:List (Key × V)} (h:yZ K Γ kvs vs):yZ K Γ (xE kvs k w) (x0 vs k v) := by
  unfold xE x0
  rw [JQ h]
  split
  · have key:∀ {kvs:List (Key × W)} {vs:List (Key × V)},yZ K Γ kvs vs → yZ K Γ (kvs.map fun kv => if kv.1 = k then (kv.1,w) else kv) (vs.map fun kv => if kv.1 = k then (kv.1,v) else kv) := fun {kvs vs} h => by
      unfold yZ at h ⊢
      induction h with
      | nil => exact .nil
      | cons a b ih =>
        rename_i p q ps qs
        obtain ⟨k1,x⟩ := p
        obtain ⟨k',y⟩ := q
        obtain ⟨e1,e2⟩ := a
        cases (show k1 = k' from e1)
        refine .cons ?_ ih
        dsimp only
        split
        · exact ⟨rfl,r⟩
        · exact ⟨rfl,e2⟩
    exact key h
  · exact Paired.appP h (.cons ⟨rfl,r⟩ .nil)
theorem uu {Γ:Gh} {more:List (Key × W)} {ms:List (Key × V)} (g:yZ K Γ more ms):∀ {kvs:List (Key × W)} {vs:List (Key × V)},yZ K Γ kvs vs → yZ K Γ (vj kvs more) (xG vs ms) := by
  unfold vj xG
  unfold yZ at g
  induction g with
  | nil => exact fun h => h
  | cons a b ih =>
    rename_i p q ps qs
    intro kvs vs h
    obtain ⟨k1,x⟩ := p
    obtain ⟨k',y⟩ := q
    obtain ⟨e1,e2⟩ := a
    cases (show k1 = k' from e1)
    exact ih (YX e2 h)
noncomputable def ZQ:List (TEW × TEW) → WS → OM → (List (W × W) → OM → Prop) → Prop
  | [],_,O,R => R [] O
  | (Tk,Tv) :: ts,ρ,O,R => Tk ρ O fun k O1 => Tv ρ O1 fun v O2 => ZQ ts ρ O2 fun ps O3 => R ((k,v) :: ps) O3
inductive RefPs (K:PySem.W.Frag):List (TE × TE) → List (TEW × TEW) → Prop
  | nil:RefPs K [] []
  | cons {tk tv:TE} {Tk Tv:TEW} {ts:List (TE × TE)} {Ts:List (TEW × TEW)}:RefE K tk Tk → RefE K tv Tv → RefPs K ts Ts → RefPs K ((tk,tv) :: ts) ((Tk,Tv) :: Ts)
theorem JR {ts:List (TE × TE)} {Ts:List (TEW × TEW)} (h:RefPs K ts Ts):∀ Γ O H ρ σ,Sim K Γ O H → relR K Γ ρ σ → ∀ (Q:List (V × V) → Hp → Prop) (R:List (W × W) → OM → Prop),ZQ Ts ρ O R →
    (∀ Γ' O' H' ws vs,Le Γ Γ' → Sim K Γ' O' H' → Paired (fun p q => relW K Γ' p.1 q.1 ∧ relW K Γ' p.2 q.2) ws vs → R ws O' → Q vs H') → ZH ts σ H Q := by
  induction h with
  | nil => intro Γ O H ρ σ S r Q R hT k; exact k _ _ _ _ _ (Le.refl _) S .nil hT
  | cons hk hv _ ih =>
    intro Γ O H ρ σ S r Q R hT k
    refine hk _ _ _ _ _ S r _ _ hT fun Γ1 O1 H1 w v l1 S1 r1 h1 => ?_
    refine hv _ _ _ _ _ S1 (r.mono l1) _ _ h1 fun Γ2 O2 H2 w2 v2 l2 S2 r2 h2 => ?_
    exact ih _ _ _ _ _ S2 (r.mono (l1.trans l2)) _ _ h2 fun Γ3 O3 H3 ws vs l3 S3 rs h3 => k _ _ _ _ _ ((l1.trans l2).trans l3) S3 (.cons ⟨(r1.mono l2).mono l3,r2.mono l3⟩ rs) h3
noncomputable def Xo:List (W × W) → Option (List (Key × W))
  | [] => some []
  | (k,v) :: ps => match Zq k,Xo ps with
    | some k',some r => some ((k',v) :: r)
    | _,_ => none
theorem JS {Γ:Gh} {ps:List (W × W)} {vs:List (V × V)} (r:Paired (fun p q => relW K Γ p.1 q.1 ∧ relW K Γ p.2 q.2) ps vs):∀ {kvs:List (Key × W)},Xo ps = some kvs → ∃ us:List (Key × V),vs = us.map (fun kv => (kV kv.1,kv.2)) ∧ yZ K Γ kvs us := by
  induction r with
  | nil => intro kvs e; cases e; exact ⟨[],rfl,.nil⟩
  | cons a b ih =>
    rename_i p q ps qs
    intro kvs e
    obtain ⟨k,v⟩ := p
    obtain ⟨k',v'⟩ := q
    simp only [Xo] at e
    split at e
    · rename_i k1 r1 e1 e2
      cases e
      obtain ⟨us,h1,h2⟩ := ih e2
      have hk := Yt (show relW K Γ k k' from a.1) e1
      exact ⟨(k1,v') :: us,by rw [h1,hk]; rfl,.cons ⟨rfl,a.2⟩ h2⟩
    · cases e
noncomputable def zbm (Ts:List (TEW × TEW)):TEW := fun ρ O R => ∀ p,O p = none → ZQ Ts ρ (updO O p (.dK [])) fun ps O2 => O2 p = some (.dK []) ∧ ∃ kvs,Xo ps = some kvs ∧ kvs.length ≤ 15 ∧ R (.own p) (updO O2 p (.dK (vj [] kvs)))
theorem zad {ts:List (TE × TE)} {Ts:List (TEW × TEW)} (h:RefPs K ts Ts):RefE K (za6 ts) (zbm Ts) := by
  intro Γ O H ρ σ S r Q R hT k p hp
  have S1 := S.newO hp (o := .dK []) (oo := .dK []) (by intro _ h; cases h) ⟨[],zn,.nil⟩
  refine JR h _ _ _ _ _ S1 r _ _ (hT p (S.free hp).2.1) fun Γ2 O2 H2 ws vs l2 S2 rs h2 => ?_
  obtain ⟨ho,kvs,ek,hl,h2⟩ := h2
  obtain ⟨us,h3,h4⟩ := JS rs ek
  obtain ⟨_,vs0,q1,q2⟩ := S2.o _ _ ho
  cases q2
  refine ⟨q1,us,h3,by rw [← Paired.length h4]; exact hl,?_⟩
  exact k _ _ _ _ _ l2 (S2.put (oo := .dK _) ho (by intro _ h; cases h) (by intro _ h; cases h) ⟨_,zn,uu h4 .nil⟩) x9 h2
noncomputable def tyW (T:String) (O:OM) (w:W):Prop := (T = "list" ∧ (yd O w).isSome = true) ∨ (T = "str" ∧ ∃ z,w = .d (.str z)) ∨ (T = "dict" ∧ ∃ a kvs,w = .own a ∧ O a = some (.dK kvs))
theorem zbn {Γ:Gh} {O:OM} {H:Hp} {T:String} {w:W} {v:V} (S:Sim K Γ O H) (r:relW K Γ w v) (h:tyW T O w):tyV K T v H := by
  rcases h with ⟨rfl,h⟩ | ⟨rfl,z,rfl⟩ | ⟨rfl,a,kvs,rfl,h⟩
  · obtain ⟨ws,e⟩ := Option.isSome_iff_exists.mp h
    obtain ⟨a,vs,rfl,q1,_⟩ := xo S r e
    exact .inl ⟨rfl,vs,q1⟩
  · rw [show v = .str z from r]; rfl
  · cases (show v = .ref a from r)
    obtain ⟨_,vs,q1,_⟩ := S.o _ _ h
    exact .inr (.inr (.inl ⟨rfl,.inl ⟨vs,q1⟩⟩))
noncomputable def wBM (T:String) (rw:W → List W → OM → WK → Prop) (To:TEW) (Ta:TAW):TEW := fun ρ O R => To ρ O fun x O1 => tyW T O1 x ∧ Ta ρ O1 fun xs O2 => rw x xs O2 R
theorem zd5 {T:String} {r:V → List V → Hp → VK → Prop} {rw:W → List W → OM → WK → Prop} {to:TE} {To:TEW} {t:TA} {Ta:TAW} (hr:RefM K T r rw) (ho:RefE K to To) (ha:xM K t Ta):RefE K (tBM K T r to t) (wBM T rw To Ta) := by
  intro Γ O H ρ σ S r0 Q R hT k
  refine ho _ _ _ _ _ S r0 _ _ hT fun Γ1 O1 H1 x v l1 S1 rx h1 => ?_
  refine ⟨zbn S1 rx h1.1,ha _ _ _ _ _ S1 (r0.mono l1) _ _ h1.2 fun Γ2 O2 H2 ws vs l2 S2 rs h2 => ?_⟩
  exact hr _ _ _ _ _ _ _ S2 (rx.mono l2) rs _ _ h2 fun Γ3 O3 H3 w u l3 => k _ _ _ _ _ ((l1.trans l2).trans l3)
noncomputable def zd6 (T:String) (rw:W → List W → OM → WK → Prop) (To:TEW):TEW := fun ρ O R => To ρ O fun x O1 => tyW T O1 x ∧ rw x [] O1 R
theorem zct {T:String} {r:V → List V → Hp → VK → Prop} {rw:W → List W → OM → WK → Prop} {to:TE} {To:TEW} (hr:RefM K T r rw) (ho:RefE K to To):RefE K (Kz K T r to) (zd6 T rw To) := by
  intro Γ O H ρ σ S r0 Q R hT k
  refine ho _ _ _ _ _ S r0 _ _ hT fun Γ1 O1 H1 x v l1 S1 rx h1 => ?_
  exact ⟨zbn S1 rx h1.1,hr _ _ _ _ _ _ _ S1 rx .nil _ _ h1.2 fun Γ3 O3 H3 w u l3 => k _ _ _ _ _ (l1.trans l3)⟩
noncomputable def ua (O:OM) (o w:W):Option OM := match o with
  | .own a => match O a with
    | some (.lst ws) => if ws.length < 1000 then some (updO O a (.lst (ws ++ [w]))) else none
    | some (.grid rows) => match w with
      | .own b => match O b with
        | some (.lst us) => if rows.length < 1000 then (xF us).map fun ds => updO (del O b) a (.grid (rows ++ [ds])) else none
        | _ => none
      | _ => none
    | _ => none
  | _ => none
noncomputable def Yu:W → List W → OM → WK → Prop := fun x ws O R => ∃ w O1,ws = [w] ∧ ua O x w = some O1 ∧ R (.d .none) O1
theorem zae {T:String}:RefM K T Uy Yu := by
  rintro Γ O H x v xs vs S rx rs Q R ⟨w,O1,rfl,e,h⟩ k
  cases rs with
  | cons rw t =>
    cases t
    rename_i u
    cases x with
    | d _ => cases e
    | row _ _ => cases e
    | own a =>
      cases (show v = .ref a from rx)
      simp only [ua] at e
      split at e
      · rename_i ws ho
        split at e
        · rename_i hl
          cases e
          obtain ⟨_,us,q1,q2⟩ := S.o _ _ ho
          refine ⟨a,us,u,rfl,rfl,q1,by rw [← Paired.length q2]; exact vh (by omega),?_⟩
          exact k _ _ _ _ _ (Le.refl _) (S.put (oo := .lst _) ho (by intro _ h; cases h) (by intro _ h; cases h) ⟨_,zn,Paired.appP q2 (.cons rw .nil)⟩) qW h
        · cases e
      · rename_i rows ho
        split at e
        · rename_i b
          cases (show u = .ref b from rw)
          split at e
          · rename_i us hb
            split at e
            · rename_i hl
              cases hd:xF us with
              | none => rw [hd] at e; cases e
              | some ds =>
                rw [hd] at e
                cases e
                rw [xP hd] at hb
                obtain ⟨_,rs,hg,_⟩ := S.o _ _ ho
                obtain ⟨q1,q2,Γ',l',S'⟩ := S.absorb ho hg hb
                refine ⟨a,_,.ref b,rfl,rfl,q1,by rw [List.length_map,q2]; exact vh (by omega),?_⟩
                exact k _ _ _ _ _ l' S' qW h
            · cases e
          · cases e
        · cases e
      · cases e
noncomputable def UH:W → List W → OM → WK → Prop := fun x ws O R => ∃ a b kvs more,x = .own a ∧ ws = [.own b] ∧ O a = some (.dK kvs) ∧ O b = some (.dK more) ∧ a ≠ b ∧ kvs.length + more.length ≤ 1000 ∧ R (.d .none) (updO O a (.dK (vj kvs more)))
theorem zaf {T:String}:RefM K T UD UH := by
  rintro Γ O H x v xs vs S rx rs Q R ⟨a,b,kvs,more,rfl,rfl,ho,hb,hne,hl,h⟩ k
  cases rs with
  | cons rw t =>
    cases t
    cases (show v = .ref a from rx)
    obtain ⟨_,vs,q1,q2⟩ := S.o _ _ ho
    obtain ⟨_,us,p1,p2⟩ := S.o _ _ hb
    refine ⟨a,b,vs,us,rfl,by rw [show _ = V.ref b from rw],q1,p1,hne,by rw [← Paired.length q2,← Paired.length p2]; exact hl,?_⟩
    exact k _ _ _ _ _ (Le.refl _) (S.put (oo := .dK _) ho (by intro _ h; cases h) (by intro _ h; cases h) ⟨_,zn,uu p2 q2⟩) qW h
end
end L2
namespace L2
open PySem PySem.Spec PyProof.Rows
section
variable {K:PySem.W.Frag}
noncomputable def zbo (t:TA):TE := XH t
theorem uh {X:Cx} {es:List Expr} {t:TA} {pos:Pos} (h:QA X es t):PE X (.List es pos) (zbo t) := Jn h.pa
noncomputable def zbp (T:TAW):TEW := fun ρ O R => T ρ O fun ws O1 => ws.length ≤ 1000 ∧ ∀ p,O1 p = none → R (.own p) (updO O1 p (.lst ws))
theorem zag {t:TA} {T:TAW} (h:xM K t T):RefE K (zbo t) (zbp T) := by
  intro Γ O H ρ σ S r0 Q R hT k
  refine h Γ O H ρ σ S r0 _ _ hT fun Γ1 O1 H1 ws vs l1 S1 rs h1 => ?_
  refine ⟨by rw [← Paired.length rs]; exact qX h1.1,fun p hp => ?_⟩
  obtain ⟨hO,S'⟩ := zcj S1 rs hp
  exact k _ _ _ _ _ l1 S' x9 (h1.2 p hO)
theorem zfU:RefC K (rLo K) X4 := zcm
noncomputable def zd7 (i j:Nat) (T:TAW):TSW := fun D ρ O => T ρ O fun ws O1 => ∃ x y,ws = [x,y] ∧ D.nx ((ρ.set i (some x)).set j (some y)) O1
theorem ub {Γ:Gh} {w:W} {v:V} (h:relW K Γ w v):jr K Γ (some w) (some v) := h
theorem zcu {i j:Nat} {t:TA} {T:TAW} (h:xM K t T):RefS K (zdn i j t) (zd7 i j T) := by
  intro Γ O H ρ σ D DW S r hT e
  refine h _ _ _ _ _ S r _ _ hT fun Γ1 O1 H1 ws vs l1 S1 rs h1 => ?_
  obtain ⟨x,y,rfl,h1⟩ := h1
  cases rs with
  | cons rx t => cases t with
    | cons ry t =>
      cases t
      exact ⟨_,_,rfl,e.nx _ _ _ _ _ l1 S1 (Paired.setP (Paired.setP (r.mono l1) (ub rx)) (ub ry)) h1⟩
noncomputable def zbq (i j k:Nat) (T:TAW):TSW := fun D ρ O => T ρ O fun ws O1 => ∃ x y z,ws = [x,y,z] ∧ D.nx (((ρ.set k (some z)).set j (some y)).set i (some x)) O1
theorem zah {i j k:Nat} {t:TA} {T:TAW} (h:xM K t T):RefS K (zbb i j k t) (zbq i j k T) := by
  intro Γ O H ρ σ D DW S r hT e
  refine h _ _ _ _ _ S r _ _ hT fun Γ1 O1 H1 ws vs l1 S1 rs h1 => ?_
  obtain ⟨x,y,z,rfl,h1⟩ := h1
  cases rs with
  | cons rx t => cases t with
    | cons ry t => cases t with
      | cons rz t =>
        cases t
        exact ⟨_,_,_,rfl,e.nx _ _ _ _ _ l1 S1 (Paired.setP (Paired.setP (Paired.setP (r.mono l1) (ub rz)) (ub ry)) (ub rx)) h1⟩
noncomputable def wCs (vs:List V):TAW := fun _ O R => R (vs.map ofV) O
theorem zd8 {vs:List V} (h:vs.all scV = true := by rfl):xM K (tCs vs) (wCs vs) := fun Γ O H ρ σ S r Q R hT k => k _ _ _ _ _ (Le.refl _) S (Zp h) hT
noncomputable def tyD:PyData → Option String
  | .none => some "NoneType"
  | .bool _ => some "bool"
  | .int _ => some "int"
  | .str _ => some "str"
  | _ => none
noncomputable def isI:String → String → Option Bool
  | "int","int" => some true
  | "int","bool" => some false
  | "int","str" => some false
  | "bool","int" => some true
  | "bool","bool" => some true
  | "bool","str" => some false
  | "str","int" => some false
  | "str","bool" => some false
  | "str","str" => some true
  | "NoneType","int" => some false
  | "NoneType","bool" => some false
  | "NoneType","str" => some false
  | _,_ => none
theorem zcv {a b:String} {c:Bool} (h:isI a b = some c):PySem.W.kitOne K (.type a) (.type b) = some c := by
  unfold isI at h
  split at h <;> first | (cases h; rfl) | cases h
noncomputable def Qs (K:PySem.W.Frag):List V → Hp → VK → Prop := fun xs H Q => ∃ x n t b,xs = [x,.ty n] ∧ TyOf K H x t ∧ PySem.W.kitOne K t (.type n) = some b ∧ Q (.bl b) H
theorem kd {X:Cx} (h:X.K = K):y9 X (.builtin "isinstance") (Qs K) := by subst h; exact V5
noncomputable def zai (n:String) (Ta:TEW):TEW := fun ρ O R => Ta ρ O fun x O1 => ∃ d s b,x = .d d ∧ tyD d = some s ∧ isI s n = some b ∧ R (.d (.bool b)) O1
theorem zcw {n:String} {ta:TE} {Ta:TEW} (h:RefE K ta Ta):RefE K (tCB (Qs K) (uJ ta (uJ (tC (.ty n)) j4))) (zai n Ta) := by
  intro Γ O H ρ σ S r Q R hT k
  refine h _ _ _ _ _ S r _ _ hT fun Γ1 O1 H1 x v l1 S1 rx h1 => ?_
  obtain ⟨d,s,b,rfl,e1,e2,h1⟩ := h1
  have ty:TyOf K H1 v (.type s) := by
    cases d <;> simp [tyD] at e1
    · subst e1; rw [show v = _ from rx]; exact .non
    · subst e1; rw [show v = _ from rx]; exact .bl _
    · subst e1; rw [show v = _ from rx]; exact .int _
    · subst e1; rw [show v = _ from rx]; exact .str _
  exact ⟨v,n,_,b,rfl,ty,zcv e2,k _ _ _ _ _ l1 S1 vP h1⟩
noncomputable abbrev TOW := WS → OM → (Option Int → OM → Prop) → Prop
noncomputable def zaj (K:PySem.W.Frag) (t:TO) (T:TOW):Prop := ∀ Γ O H ρ σ,Sim K Γ O H → relR K Γ ρ σ → ∀ (Q:Option Int → Hp → Prop) (R:Option Int → OM → Prop),T ρ O R → (∀ Γ' O' H' b,Le Γ Γ' → Sim K Γ' O' H' → R b O' → Q b H') → t σ H Q
noncomputable def zbr (T:TEW):TOW := fun ρ O R => T ρ O fun x O1 => ∃ i,x = .d (.int i) ∧ R (some i) O1
theorem zak {t:TE} {T:TEW} (h:RefE K t T):zaj K (za0 t) (zbr T) := by
  intro Γ O H ρ σ S r Q R hT k
  refine h _ _ _ _ _ S r _ _ hT fun Γ1 O1 H1 x v l1 S1 rx h1 => ?_
  obtain ⟨i,rfl,h1⟩ := h1
  exact ⟨i,rx,k _ _ _ _ l1 S1 h1⟩
noncomputable def ke {α:Type} (xs:List α) (lo hi:Option Int):List α := (xs.drop (HT.sIx xs.length 0 lo)).take (HT.sIx xs.length xs.length hi - HT.sIx xs.length 0 lo)
theorem zal {Z:Hp} {ds:List PyData} {vs:List V} (h:Reps K Z ds vs) (lo hi:Option Int):Reps K Z (ke ds lo hi) (Yl vs lo hi) := by
  have hp:relWs K ⟨Z,fun _ => none,fun _ => none⟩ (ds.map .d) vs := xl h
  have hl := Reps.length h
  have := Paired.takeP (Paired.dropP hp (HT.sIx vs.length 0 lo)) (HT.sIx vs.length vs.length hi - HT.sIx vs.length 0 lo)
  rw [← List.map_drop,← List.map_take] at this
  unfold ke Yl
  rw [hl]
  exact zN this
noncomputable def zd9 (Te:TEW) (Tl Th:TOW):TEW := fun ρ O R => Te ρ O fun x O1 => Tl ρ O1 fun l O2 => Th ρ O2 fun u O3 => ∃ ws ds,yd O3 x = some ws ∧ xF ws = some ds ∧ R (.d (.list (ke ds l u))) O3
theorem zcx {te:TE} {tl th:TO} {Te:TEW} {Tl Th:TOW} (he:RefE K te Te) (hl:zaj K tl Tl) (hh:zaj K th Th):RefE K (tSl (Ky K) te tl th) (zd9 Te Tl Th) := by
  intro Γ O H ρ σ S r Q R hT k
  refine he _ _ _ _ _ S r _ _ hT fun Γ1 O1 H1 x v l1 S1 rx h1 => ?_
  refine hl _ _ _ _ _ S1 (r.mono l1) _ _ h1 fun Γ2 O2 H2 l l2 S2 h2 => ?_
  refine hh _ _ _ _ _ S2 (r.mono (l1.trans l2)) _ _ h2 fun Γ3 O3 H3 u l3 S3 h3 => ?_
  obtain ⟨ws,ds,e1,e2,h3⟩ := h3
  obtain ⟨a,vs,rfl,q1,q2⟩ := xo S3 ((rx.mono l2).mono l3) e1
  rw [xP e2] at q2
  refine ⟨a,vs,rfl,q1,fun p hp => ?_⟩
  obtain ⟨Γ',l',S',r'⟩ := qY S3 (zal (zN q2) l u) hp
  exact k _ _ _ _ _ (((l1.trans l2).trans l3).trans l') S' r' h3
noncomputable def zea:R2W := fun x y O R => ∃ ws us ds es,yd O x = some ws ∧ yd O y = some us ∧ xF ws = some ds ∧ xF us = some es ∧ ds.length + es.length ≤ 1000 ∧ R (.d (.list (ds ++ es))) O
theorem X9 {Z:Hp}:∀ {ds es:List PyData} {vs us:List V},Reps K Z ds vs → Reps K Z es us → Reps K Z (ds ++ es) (vs ++ us)
  | [],_,_,_,h,g => by rw [show _ = [] from h]; exact g
  | d :: ds,_,_,_,h,g => by
    obtain ⟨x,r,rfl,h1,h2⟩ := h
    exact ⟨x,_,rfl,h1,X9 h2 g⟩
theorem ze9:RefR K (zdG K) zea := by
  rintro Γ O H x y v u S rx ry Q R ⟨ws,us,ds,es,e1,e2,e3,e4,hl,h⟩ k
  obtain ⟨a,vs,rfl,q1,q2⟩ := xo S rx e1
  obtain ⟨b,zs,rfl,p1,p2⟩ := xo S ry e2
  rw [xP e3] at q2
  rw [xP e4] at p2
  have q3 := zN q2
  have p3 := zN p2
  refine ⟨a,b,vs,zs,rfl,rfl,q1,p1,by rw [← Reps.length q3,← Reps.length p3]; exact qX hl,fun p hp => ?_⟩
  obtain ⟨Γ',l',S',r'⟩ := qY S (X9 q3 p3) hp
  exact k _ _ _ _ _ l' S' r' h
noncomputable def wIn (neg:Bool):R2W := fun x y O R => ∃ d ds,x = .d d ∧ jt O y = some ds ∧ scD d = true ∧ ds.all scD = true ∧ R (.d (.bool (if neg then !inV (vOf d) (ds.map vOf) else inV (vOf d) (ds.map vOf)))) O
theorem UI {Z:Hp}:∀ {ds:List PyData} {vs:List V},Reps K Z ds vs → ds.all scD = true → vs = ds.map vOf
  | [],_,h,_ => h
  | d :: ds,_,h,a => by
    obtain ⟨x,r,rfl,h1,h2⟩ := h
    simp at a
    rw [qV h1 a.1,UI h2 (by simpa using a.2)]
    rfl
theorem UJ {d:PyData} (h:scD d = true):uK (vOf d) = true := by cases d <;> first | rfl | simp [scD] at h
noncomputable def zeb (K:PySem.W.Frag) (neg:Bool):R2 := rIn K neg
theorem qq {X:Cx} (h:X.K = K):OpR X (compareOp .In) (zeb K false) := by subst h; exact Js
theorem zfV {neg:Bool}:RefR K (zeb K neg) (wIn neg) := by
  rintro Γ O H x y v u S rx ry Q R ⟨d,ds,rfl,e,h1,h2,h⟩ k
  obtain ⟨a,vs,rfl,q1,q2⟩ := UG S ry e
  have hv := qV rx h1
  have hvs := UI q2 h2
  subst hv hvs
  refine ⟨a,_,rfl,q1,UJ h1,?_,k _ _ _ _ _ (Le.refl _) S vP h⟩
  rw [List.all_map]
  simp only [List.all_eq_true] at h2 ⊢
  exact fun z hz => UJ (h2 z hz)
noncomputable def zbs:R2W := fun x y O R => ∃ i j,x = .d (.str i) ∧ y = .d (.str j) ∧ i.length + j.length ≤ sizeLine ∧ R (.d (.str (i ++ j))) O
theorem zec:RefR K (fun x y H Q => ∃ i j,x = .str i ∧ y = .str j ∧ i.length + j.length ≤ sizeLine ∧ Q (.str (i ++ j)) H) zbs := by
  rintro Γ O H x y v u S rx ry Q R ⟨i,j,rfl,rfl,hl,h⟩ k
  exact ⟨i,j,rx,ry,hl,k _ _ _ _ _ (Le.refl _) S uO h⟩
end
end L2
namespace L2
open PySem PySem.Spec PyProof.Rows
section
variable {K:PySem.W.Frag}
theorem Sim.unframeO {Γ:Gh} {O:OM} {H:Hp} (S:Sim K Γ O H) {a:Addr} {ds:List PyData} {vs:List V} {F:Hp} (hF:Γ.F = upd F a (.lst vs)) (h0:F a = none) (hr:Reps K Γ.Z ds vs) :
    O a = none ∧ Sim K ⟨Γ.Z,Γ.G,F⟩ (updO O a (.lst (ds.map .d))) H := by
  have hFa:Γ.F a = some (.lst vs) := by rw [hF,zn]
  obtain ⟨hz,hO,hrow⟩ := S.fd _ _ hFa
  have kF:∀ b o,F b = some o → b ≠ a ∧ Γ.F b = some o := fun b o e => by
    have hb:b ≠ a := fun z => by rw [z,h0] at e; cases e
    exact ⟨hb,by rw [hF,zi hb]; exact e⟩
  have k1:∀ {x:Addr} {rx:List (List PyData)},updO O a (.lst (ds.map .d)) x = some (.grid rx) → O x = some (.grid rx) := fun {x rx} h => by
    by_cases hx:x = a
    · subst hx; rw [ze] at h; cases h
    · rw [zf hx] at h; exact h
  refine ⟨hO,⟨S.z,fun b oo e => ?_,S.gd,fun b u e => S.f _ _ (kF b u e).2,fun b oo e hn => ?_,fun b o e => S.fg b o (kF b o e).2,fun b o e => ⟨(S.fd b o (kF b o e).2).1,by rw [zf (kF b o e).1]; exact (S.fd b o (kF b o e).2).2.1,fun c rows rs e1 => (S.fd b o (kF b o e).2).2.2 c rows rs (k1 e1)⟩,fun x y ra rb rs ss r e1 e2 => S.u x y ra rb rs ss r (k1 e1) (k1 e2)⟩⟩
  · by_cases hb:b = a
    · subst hb
      rw [ze] at e
      cases e
      exact ⟨hz,vs,S.f _ _ hFa,xl hr⟩
    · rw [zf hb] at e
      obtain ⟨q1,q2⟩ := S.o _ _ e
      refine ⟨q1,(q2.keep (Le.refl _) rfl rfl fun rs r hg ⟨rows,hrw⟩ hm => ⟨rfl,rfl,?_⟩).setF⟩
      subst hrw
      exact zf (fun z => hrow b rows rs e hg (by rw [← z]; exact hm))
  · by_cases hb:b = a
    · rw [hb]; exact S.fg _ _ hFa
    · rw [zf hb] at e; exact S.gn b oo e hn
noncomputable def zam (wi:TI) (n:Nat) (js:List Nat) (g:TG) (tt:TT) (te:TE):TE := tLc wi n js g tt te
noncomputable def zed (wi:TI) (n:Nat) (js:List Nat) (g:TG) (tt:TT) (te:TE):TE := tLc wi n js g tt te
section
variable {X:Cx} {N:List Str} {n:Nat} {js:List Nat} {scope:Scope} {cl:List (Str × Addr)} {elt tg iter:Expr} {ifs:List Expr} {pos:Pos} {wi:TI} {g:TG} {tt:TT} {te:TE}
theorem JT (L:LcOk X N n js scope cl) (hc:X.calm = true) (hi:PI X tg iter wi)
    (hg:∀ C s0 H0 fp0,PG (xh X N scope cl C s0 H0 fp0) tg g) (ht:∀ C s0 H0 fp0,PTs (xh X N scope cl C s0 H0 fp0) ifs tt) (he:∀ C s0 H0 fp0,PE (xh X N scope cl C s0 H0 fp0) elt te)
    (hs:∀ x,foldedSetIterable iter X.env x = pure x := by intro _; rfl):PE X (.ListComp elt [⟨tg,iter,ifs,0⟩] scope pos) (zam wi n js g tt te) := kO L hc hi hg ht he hs
theorem zee (L:LcOk X N n js scope cl) (hc:X.calm = true) (hi:PI X tg iter wi)
    (hg:∀ C s0 H0 fp0,PG (xh X N scope cl C s0 H0 fp0) tg g) (ht:∀ C s0 H0 fp0,PTs (xh X N scope cl C s0 H0 fp0) ifs tt) (he:∀ C s0 H0 fp0,PE (xh X N scope cl C s0 H0 fp0) elt te)
    (hs:∀ x,foldedSetIterable iter X.env x = pure x := by intro _; rfl):PE X (.ListComp elt [⟨tg,iter,ifs,0⟩] scope pos) (zed wi n js g tt te) := kO L hc hi hg ht he hs
theorem kf {i:Nat} {x:Str} {pos' spos:Pos} (hN:X.N.Nodup) (hx:X.N[i]? = some x) (hk:X.env.scope.names.lookup x = some .local) (L:LcOk X N n js scope cl) (hc:X.calm = true) (hi:PI X tg iter wi)
    (hg:∀ C s0 H0 fp0,PG (xh X N scope cl C s0 H0 fp0) tg g) (ht:∀ C s0 H0 fp0,PTs (xh X N scope cl C s0 H0 fp0) ifs tt) (he:∀ C s0 H0 fp0,PE (xh X N scope cl C s0 H0 fp0) elt te)
    (hsw:swapsWith (.ListComp elt [⟨tg,iter,ifs,0⟩] scope pos) (some (.Name x pos')) spos.line X.env = pure true := by rfl)
    (hs:∀ x,foldedSetIterable iter X.env x = pure x := by intro _; rfl):PS X (.Assign [.Name x pos'] (.ListComp elt [⟨tg,iter,ifs,0⟩] scope pos) spos) (XA (zam wi n js g tt te) (kL i)) := KF hN hx hk L hc hi hg ht he hsw hs
end
noncomputable def zef (Wi:TIW) (n:Nat) (js:List Nat) (G:TGW) (T:TTW) (E:TEW):TEW := fun ρ O R => Wi ρ O fun ws keep O1 => keep O1 ∧ ws.length ≤ 1000 ∧ ∃ F:W → Option PyData,
  (∀ w ∈ ws,∀ us:WS,us.length = n → ZP G T E n (xa js ρ) w (us ++ xa js ρ) O1 fun y O2 => O2 = O1 ∧ y = (F w).map .d) ∧ ∀ p,O1 p = none → R (.own p) (updO O1 p (.lst ((ws.filterMap F).map .d)))
theorem zcy {wi:TI} {Wi:TIW} {n:Nat} {js:List Nat} {g:TG} {G:TGW} {tt:TT} {T:TTW} {te:TE} {E:TEW} (hi:uz K wi Wi) (hg:RefG K g G) (ht:x4 K tt T) (he:RefE K te E):RefE K (zam wi n js g tt te) (zef Wi n js G T E) := by
  intro Γ O H ρ σ S r Q R hT k
  refine hi _ _ _ _ _ S r _ _ hT fun Γ1 O1 H1 J ws keep l1 S1 ok h1 => ?_
  obtain ⟨hk,hlen,F,hF,hR⟩ := h1
  intro D hD
  have hFD:Γ1.F D = none := S1.f.free hD
  have hOD := (S1.free hD).2.1
  have r1 := qp (r.mono l1) n js
  refine ⟨fun i m σ' H' => i ≤ ws.length ∧ m = ws.length - i ∧ ∃ Γ' ρ' vs,Same Γ1.Z Γ'.Z ∧ (∀ a rs,Γ1.G a = some rs → ∃ more,Γ'.G a = some (rs ++ more)) ∧ Γ'.F = upd Γ1.F D (.lst vs) ∧ Sim K Γ' O1 H' ∧ relR K Γ' ρ' σ' ∧
    ρ'.length = n + (xa js ρ).length ∧ ρ'.drop n = xa js ρ ∧ Reps K Γ'.Z ((ws.take i).filterMap F) vs,⟨_,Nat.zero_le _,rfl,_,_,[],Same.refl _,fun a rs h => ⟨[],by rw [List.append_nil]; exact h⟩,rfl,S1.frameNew hD (.lst []),r1.setF,by simp,by simp,rfl⟩,?_⟩
  rintro i m σ' H' ⟨hi,rfl,Γ',ρ',vs,z',g',f',S',r',n1,n2,rp⟩
  obtain ⟨ok1,ok2⟩ := ok i Γ' O1 H' z' g' S' hk
  have hvl:vs.length ≤ i := by
    rw [← Reps.length rp]
    exact Nat.le_trans (List.length_filterMap_le _ _) (by rw [List.length_take]; omega)
  by_cases hlt:i < ws.length
  · obtain ⟨go,y⟩ := ok1 _ (List.getElem?_eq_getElem hlt)
    refine .inr ⟨go,fun σ2 H2 => ∃ Γ2 ρ2 vs2,Same Γ1.Z Γ2.Z ∧ (∀ a rs,Γ1.G a = some rs → ∃ more,Γ2.G a = some (rs ++ more)) ∧ Γ2.F = upd Γ1.F D (.lst vs2) ∧ Sim K Γ2 O1 H2 ∧ relR K Γ2 ρ2 σ2 ∧
      ρ2.length = n + (xa js ρ).length ∧ ρ2.drop n = xa js ρ ∧ Reps K Γ2.Z ((ws.take (i + 1)).filterMap F) vs2,fun σ2 H2 h => ⟨ws.length - (i + 1),by omega,hlt,rfl,h⟩,fun x H2 hy => ?_⟩
    obtain ⟨Γ2,l2,S2,rx⟩ := y x H2 hy
    obtain ⟨us,hus,rfl⟩ := ju n1 n2
    have et:ws.take (i + 1) = ws.take i ++ [ws[i]] := (List.take_append_getElem hlt).symm
    refine hg _ _ _ _ _ _ _ S2 (r'.mono l2) rx _ _ (hF _ (List.getElem_mem hlt) us hus) fun Γ3 O3 H3 ρ3 σ3 l3 S3 r3 h3 => ?_
    obtain ⟨⟨m1,m2⟩,h3⟩ := h3
    refine ht _ _ _ _ _ S3 r3 _ _ h3 fun Γ4 O4 H4 b l4 S4 h4 => ?_
    have l24 := (l2.trans l3).trans l4
    have up:∀ Γ5,Le Γ' Γ5 → Same Γ1.Z Γ5.Z ∧ (∀ a rs,Γ1.G a = some rs → ∃ more,Γ5.G a = some (rs ++ more)) := fun Γ5 l => ⟨z'.trans l.z,fun a rs h => by
      obtain ⟨m,e⟩ := g' a rs h
      obtain ⟨m2,e2⟩ := l.g a _ e
      exact ⟨m ++ m2,by rw [← List.append_assoc]; exact e2⟩⟩
    cases b with
    | true =>
      rw [if_pos rfl] at h4 ⊢
      refine he _ _ _ _ _ S4 (r3.mono l4) _ _ h4 fun Γ5 O5 H5 w5 v5 l5 S5 r5 h5 => ?_
      obtain ⟨rfl,h5⟩ := h5
      have l25 := l24.trans l5
      cases hFw:F ws[i] with
      | none => rw [hFw] at h5; cases h5
      | some d =>
        rw [hFw] at h5
        cases h5
        have f5:Γ5.F = upd Γ1.F D (.lst vs) := by rw [l25.f,f']
        have fD:Γ5.F D = some (.lst vs) := by rw [f5,zn]
        refine ⟨vs,S5.f _ _ fD,vh (by omega),?_⟩
        obtain ⟨u1,u2⟩ := up Γ5 l25
        refine ⟨⟨Γ5.Z,Γ5.G,upd Γ5.F D (.lst (vs ++ [v5]))⟩,ρ3,vs ++ [v5],u1,u2,?_,S5.framePut fD _,((r3.mono l4).mono l5).setF,m1,m2,?_⟩
        · show upd Γ5.F D _ = _
          rw [f5,Yg]
        · rw [et,List.filterMap_append]
          have:([ws[i]]:List W).filterMap F = [d] := by simp [hFw]
          rw [this]
          exact Reps.snoc (Reps.same l25.z _ _ rp) r5
    | false =>
      rw [if_neg (by decide)] at h4 ⊢
      obtain ⟨rfl,h4⟩ := h4
      obtain ⟨u1,u2⟩ := up Γ4 l24
      refine ⟨Γ4,ρ3,vs,u1,u2,by rw [l24.f,f'],S4,r3.mono l4,m1,m2,?_⟩
      cases hFw:F ws[i] with
      | some d => rw [hFw] at h4; cases h4
      | none =>
        rw [et,List.filterMap_append]
        have:([ws[i]]:List W).filterMap F = [] := by simp [hFw]
        rw [this,List.append_nil]
        exact Reps.same l24.z _ _ rp
  · have hi2:i = ws.length := by omega
    subst hi2
    refine .inl ⟨ok2 rfl,?_⟩
    rw [List.take_length] at rp
    obtain ⟨q1,q2⟩ := S'.unframeO f' hFD rp
    exact k ⟨Γ'.Z,Γ'.G,Γ1.F⟩ _ _ _ _ (l1.trans ⟨rfl,z',g'⟩) q2 x9 (hR D hOD)
noncomputable def zeg (Wi:TIW) (n:Nat) (js:List Nat) (G:TGW) (T:TTW) (E:TEW):TEW := fun ρ O R => Wi ρ O fun ws keep O1 => keep O1 ∧ ws.length ≤ 1000 ∧ ∃ F:W → List PyData,
  (∀ w ∈ ws,∀ us:WS,us.length = n → ZP G T E n (xa js ρ) w (us ++ xa js ρ) O1 fun y O2 => ∃ b,O1 b = none ∧ y = some (.own b) ∧ O2 = updO O1 b (.lst ((F w).map .d))) ∧ ∀ p,O1 p = none → R (.own p) (updO O1 p (.grid (ws.map F)))
theorem zcz {wi:TI} {Wi:TIW} {n:Nat} {js:List Nat} {g:TG} {G:TGW} {tt:TT} {T:TTW} {te:TE} {E:TEW} (hi:uz K wi Wi) (hg:RefG K g G) (ht:x4 K tt T) (he:RefE K te E):RefE K (zed wi n js g tt te) (zeg Wi n js G T E) := by
  intro Γ O H ρ σ S r Q R hT k
  refine hi _ _ _ _ _ S r _ _ hT fun Γ1 O1 H1 J ws keep l1 S1 ok h1 => ?_
  obtain ⟨hk,hlen,F,hF,hR⟩ := h1
  intro D hD
  have hFD:Γ1.F D = none := S1.f.free hD
  have hOD := (S1.free hD).2.1
  have r1 := qp (r.mono l1) n js
  refine ⟨fun i m σ' H' => i ≤ ws.length ∧ m = ws.length - i ∧ ∃ Γ' ρ',∃ rs:List Addr,Same Γ1.Z Γ'.Z ∧ (∀ a rs,Γ1.G a = some rs → ∃ more,Γ'.G a = some (rs ++ more)) ∧ Sim K Γ' O1 H' ∧ relR K Γ' ρ' σ' ∧
    (ρ'.length = n + (xa js ρ).length ∧ ρ'.drop n = xa js ρ) ∧ Γ'.F D = some (.lst (rs.map V.ref)) ∧ rs.Nodup ∧ D ∉ rs ∧ rs.length = i ∧
    (∀ (j:Nat) (q:Addr),rs[j]? = some q → Γ1.F q = none ∧ ∃ vs w,Γ'.F q = some (.lst vs) ∧ ws[j]? = some w ∧ Reps K Γ'.Z (F w) vs) ∧ ∀ x,x ≠ D → x ∉ rs → Γ'.F x = Γ1.F x,
    ⟨_,Nat.zero_le _,rfl,⟨Γ1.Z,Γ1.G,upd Γ1.F D (.lst [])⟩,_,[],Same.refl _,fun a rs h => ⟨[],by rw [List.append_nil]; exact h⟩,S1.frameNew hD (.lst []),r1.setF,⟨by simp,by simp⟩,zn,.nil,by simp,rfl,by simp,fun x hx _ => zi hx⟩,?_⟩
  rintro i m σ' H' ⟨hi,rfl,Γ',ρ',rs,z',g',S',r',⟨n1,n2⟩,fD,nd,nD,hl,hrow,hrest⟩
  obtain ⟨ok1,ok2⟩ := ok i Γ' O1 H' z' g' S' hk
  by_cases hlt:i < ws.length
  · obtain ⟨go,y⟩ := ok1 _ (List.getElem?_eq_getElem hlt)
    refine .inr ⟨go,fun σ' H' => ∃ Γ' ρ',∃ rs:List Addr,Same Γ1.Z Γ'.Z ∧ (∀ a rs,Γ1.G a = some rs → ∃ more,Γ'.G a = some (rs ++ more)) ∧ Sim K Γ' O1 H' ∧ relR K Γ' ρ' σ' ∧
      (ρ'.length = n + (xa js ρ).length ∧ ρ'.drop n = xa js ρ) ∧ Γ'.F D = some (.lst (rs.map V.ref)) ∧ rs.Nodup ∧ D ∉ rs ∧ rs.length = i + 1 ∧
      (∀ (j:Nat) (q:Addr),rs[j]? = some q → Γ1.F q = none ∧ ∃ vs w,Γ'.F q = some (.lst vs) ∧ ws[j]? = some w ∧ Reps K Γ'.Z (F w) vs) ∧ ∀ x,x ≠ D → x ∉ rs → Γ'.F x = Γ1.F x,fun σ2 H2 h => ⟨ws.length - (i + 1),by omega,hlt,rfl,h⟩,fun x H2 hy => ?_⟩
    obtain ⟨Γ2,l2,S2,rx⟩ := y x H2 hy
    obtain ⟨us,hus,rfl⟩ := ju n1 n2
    refine hg _ _ _ _ _ _ _ S2 (r'.mono l2) rx _ _ (hF _ (List.getElem_mem hlt) us hus) fun Γ3 O3 H3 ρ3 σ3 l3 S3 r3 h3 => ?_
    obtain ⟨⟨m1,m2⟩,h3⟩ := h3
    refine ht _ _ _ _ _ S3 r3 _ _ h3 fun Γ4 O4 H4 b l4 S4 h4 => ?_
    have l24 := (l2.trans l3).trans l4
    cases b with
    | false =>
      rw [if_neg (by decide)] at h4
      obtain ⟨_,_,h,_⟩ := h4
      cases h
    | true =>
      rw [if_pos rfl] at h4 ⊢
      refine he _ _ _ _ _ S4 (r3.mono l4) _ _ h4 fun Γ5 O5 H5 w5 v5 l5 S5 r5 h5 => ?_
      obtain ⟨b,hb0,hw,rfl⟩ := h5
      cases hw
      cases (show v5 = .ref b from r5)
      have l25 := l24.trans l5
      have f5:Γ5.F = Γ'.F := l25.f
      have hOb:updO O1 b (.lst ((F ws[i]).map .d)) b = some (.lst ((F ws[i]).map .d)) := ze
      have Fb:Γ5.F b = none := by
        cases e:Γ5.F b with
        | none => rfl
        | some o => have := (S5.fd _ _ e).2.1; rw [hOb] at this; cases this
      have bD:b ≠ D := fun e => by rw [e,f5,fD] at Fb; cases Fb
      have brs:b ∉ rs := fun m => by
        obtain ⟨j,hj,e⟩ := List.mem_iff_getElem.mp m
        obtain ⟨_,vs,w,q,_⟩ := hrow j b (by rw [List.getElem?_eq_getElem hj,e])
        rw [f5,q] at Fb; cases Fb
      have F1b:Γ1.F b = none := by rw [← hrest b bD brs,← f5]; exact Fb
      obtain ⟨vb,hb1,hb2,S6⟩ := S5.frameOwn hOb
      have hdel:del (updO O1 b (.lst ((F ws[i]).map .d))) b = O1 := by
        funext c
        by_cases hc:c = b
        · rw [hc,x3,hb0]
        · rw [x8 hc,zf hc]
      rw [hdel] at S6
      have F6D:(⟨Γ5.Z,Γ5.G,upd Γ5.F b (.lst vb)⟩:Gh).F D = some (.lst (rs.map V.ref)) := by
        show upd Γ5.F b _ D = _
        rw [zi (Ne.symm bD),f5]; exact fD
      have S7 := S6.framePut F6D (.lst (rs.map V.ref ++ [.ref b]))
      refine ⟨rs.map V.ref,S6.f _ _ F6D,vh (by rw [List.length_map]; omega),?_⟩
      refine ⟨⟨Γ5.Z,Γ5.G,upd (upd Γ5.F b (.lst vb)) D (.lst (rs.map V.ref ++ [.ref b]))⟩,ρ3,rs ++ [b],z'.trans l25.z,fun a ss h => ?_,S7,(((r3.mono l4).mono l5).setF).setF,⟨m1,m2⟩,?_,?_,?_,by simp [hl],fun j q e => ?_,fun x hx hxr => ?_⟩
      · obtain ⟨m,e⟩ := g' a ss h
        obtain ⟨m2,e2⟩ := l25.g a _ e
        exact ⟨m ++ m2,by rw [← List.append_assoc]; exact e2⟩
      · rw [List.map_append]; exact zn
      · rw [List.nodup_append]
        exact ⟨nd,by simp,fun u hu v hv => by simp at hv; subst hv; exact fun z => brs (by rw [← z]; exact hu)⟩
      · simp [nD]; exact fun e => bD e.symm
      · by_cases hj:j < rs.length
        · rw [List.getElem?_append_left hj] at e
          obtain ⟨q1,vs,w,q2,q3,q4⟩ := hrow j q e
          have hqb:q ≠ b := fun z => brs (by rw [← z]; exact List.mem_of_getElem? e)
          have hqD:q ≠ D := fun z => nD (by rw [← z]; exact List.mem_of_getElem? e)
          refine ⟨q1,vs,w,?_,q3,Reps.same l25.z _ _ q4⟩
          show upd (upd Γ5.F b _) D _ q = _
          rw [zi hqD,zi hqb,f5]; exact q2
        · have hj2:j = rs.length := by
            have := (List.getElem?_eq_some_iff.mp e).1
            simp at this; omega
          subst hj2
          rw [List.getElem?_append_right (Nat.le_refl _)] at e
          simp at e
          subst e
          refine ⟨F1b,vb,ws[i],?_,by rw [hl]; exact List.getElem?_eq_getElem hlt,zN (Γ := Γ5) hb2⟩
          show upd (upd Γ5.F b _) D _ b = _
          rw [zi bD,zn]
      · have hxb:x ≠ b := fun z => hxr (by rw [z]; simp)
        show upd (upd Γ5.F b _) D _ x = _
        rw [zi hx,zi hxb,f5]
        exact hrest x hx fun m => hxr (by simp [m])
  · have hi2:i = ws.length := by omega
    refine .inl ⟨ok2 hi2,?_⟩
    obtain ⟨q1,G',q2,q3⟩ := S'.gridify (F := Γ1.F) (rows := ws.map F) hFD fD nd nD (by rw [List.length_map]; omega) (fun j q ds e1 e2 => by
      obtain ⟨y1,vs,w,y2,y3,y4⟩ := hrow j q e1
      rw [List.getElem?_map,y3] at e2
      cases e2
      exact ⟨y1,vs,y2,y4⟩) hrest
    exact k ⟨Γ'.Z,G',Γ1.F⟩ _ _ _ _ (l1.trans ⟨rfl,z',fun a ss h => by obtain ⟨m,e⟩ := g' a ss h; exact ⟨m,q2 _ _ e⟩⟩) q3 x9 (hR D hOD)
end
end L2
namespace L2
open PySem PySem.Spec PyProof.Rows
section
variable {X:Cx} {K:PySem.W.Frag}
theorem zm {e:Expr} {ta:TE} {f:Str} {pos:Pos} (hK:X.K = K) (he:PE X e ta) (hb:attributeBase e f X.env (eval e X.env) = eval e X.env):PE X (.Attribute e f pos) (Ks K ta f) := by
  subst hK; exact zds he hb
theorem zA {o value:Expr} {ta tv:TE} {f:Str} {pos pos':Pos} (hK:X.K = K) (ha:PE X o ta) (hv:PE X value tv) (hs:swapsWith value (some (.Attribute o f pos')) pos.line X.env = pure false):PS X (.Assign [.Attribute o f pos'] value pos) (Kt K ta tv f) := by
  subst hK; exact zdt ha hv hs
theorem xC (hK:X.K = K):IxR X (Kx K) := by subst hK; exact zdw
theorem Zr {tg l:Expr} {tl:TE} (hK:X.K = K) (hl:PE X l tl):PI X tg l (UZ K tl) := by subst hK; exact zbO hl
theorem ui {tg l:Expr} {tl:TE} (hK:X.K = K) (hl:PE X l tl):PI X tg l (Kl K tl) := by subst hK; exact zdo hl
theorem zan {es:List Expr} {k:Nat} {tp:Pos} {l:Expr} {ta:TA} {p pos:Pos} (hK:X.K = K) (hg:Gl X "enumerate") (hm:X.mg "enumerate" = none) (ha:PA X [l] ta) (hs:starEach [l] X.env = [(false,eval l X.env)] := by rfl) :
    PI X (.Tuple es k tp) (.Call (.Name "enumerate" p) [l] [] pos) (Qi K ta) := by subst hK; exact zb6 hg hm ha hs
theorem uj {es:List Expr} {k:Nat} {t:TGs} {n:Nat} {pos:Pos} (hK:X.K = K) (hc:X.calm = true) (h:PGs X es t)
    (hn:(assignEach es X.env).length = n := by rfl) (hst:(assignEach es X.env).findIdx? (·.1) = none := by rfl):PG X (.Tuple es k pos) (Kk K n t) := by subst hK; exact zdl hc h hn hst
section
variable {T:String} {name:Str} {id:String} {r:V → List V → Hp → VK → Prop} {o e:Expr} {es:List Expr} {to:TE} {t:TA} {apos cpos:Pos}
theorem Yv (hK:X.K = K) (pa:PlainAttrs T) (slot:Slot T name id) (hty:typeOf (.builtin id) = pure (.type "method_descriptor")) (hm:MtR X id r) (ho:PE X o to)
    (hbase:attributeBase o name X.env (eval o X.env) = eval o X.env := by rfl) (hline:(apos.endLine == cpos.line) = true := by rfl):PE X (.Call (.Attribute o name apos) [] [] cpos) (Kz K T r to) := by subst hK; exact zdy pa slot hty hm ho hbase hline
theorem xj (hK:X.K = K) (pa:PlainAttrs T) (slot:Slot T name id) (hty:typeOf (.builtin id) = pure (.type "method_descriptor")) (hm:MtR X id r) (ho:PE X o to) (ha:PA X (e :: es) t)
    (hbase:attributeBase o name X.env (eval o X.env) = eval o X.env := by rfl)
    (hfew:((backTo cpos (starEach (e :: es) X.env)).all (fun x => !x.1) && (backToKw cpos (keywordEach [] X.env)).all (fun x => x.1.isSome) && decide ((e :: es).length + ([]:List Keyword).length + (if ([]:List Keyword).isEmpty then 0 else 1) < 30)) = true := by rfl)
    (hline:(apos.endLine == cpos.line) = true := by rfl) (hs:starEach (e :: es) X.env = (false,eval e X.env) :: starEach es X.env := by rfl) (hplain:(backTo cpos (starEach es X.env)).any (·.1) = false := by rfl) :
    PE X (.Call (.Attribute o name apos) (e :: es) [] cpos) (tBM K T r to t) := by subst hK; exact zeQ pa slot hty hm ho ha hbase hfew hline hs hplain
end
noncomputable def zbt (K:PySem.W.Frag):List V → Hp → VK → Prop := fun xs H Q => ∃ p ys,xs = [.ref p] ∧ (SqL K H p ys ∨ SqT K H p ys) ∧ Q (.int ys.length) H
theorem ZR (hK:X.K = K):y9 X (.builtin "len") (zbt K) := by subst hK; exact XM
theorem zeh:RefC K (zbt K) K1 := ze7
noncomputable def zbu (K:PySem.W.Frag):List V → Hp → VK → Prop := fun xs H Q => ∃ p ys,xs = [.ref p] ∧ ((SqL K H p ys ∧ ∀ l,H l = none → Q (.ref l) (upd H l (.tup ys))) ∨ (SqT K H p ys ∧ Q (.ref p) H))
theorem zei (hK:X.K = K):y9 X (.type "tuple") (zbu K) := by subst hK; exact Y4
theorem zej:RefC K (zbu K) X5 := zcn
noncomputable def zbv (K:PySem.W.Frag) (ta:TE):TT := fun σ H Q => ta σ H fun x H' => ∃ k,Yk K x H' k ∧ Q k H'
theorem qr {a:Expr} {ta:TE} (hK:X.K = K) (ha:PE X a ta) (he:∀ whole,isTrue a X.env whole = (do let v ← whole; standAt a.pos; holding [v] (truthy v))):PT X a (zbv K ta) := by
  subst hK; exact Kp ha he
theorem zao {t:TE} {T:TEW} (h:RefE K t T):x4 K (zbv K t) (KW T) := zch h
theorem Va (hK:X.K = K) (hu:X.A.units + 64 < cLine):OpR X (compareOp .Eq) (KG K) := by subst hK; exact zdD hu
theorem JU (hK:X.K = K) (hu:X.A.units + 64 < cLine):OpR X (compareOp .NotEq) (KH K) := by subst hK; exact zdE hu
theorem zcA:x4 K zdB (fun _ O R => R true O) := fun Γ O H ρ σ S r Q R hT k => k _ _ _ _ (Le.refl _) S hT
end
section
variable {K:PySem.W.Frag}
end
end L2
namespace L2
open PySem PySem.Spec PyProof.Rows
section
variable {K:PySem.W.Frag}
noncomputable def wCR (a:Addr):TEW := fun _ O R => R (.own a) O
theorem zek {a:Addr}:RefE K (tC (.ref a)) (wCR a) := fun Γ O H ρ σ S r Q R h k => k _ _ _ _ _ (Le.refl _) S x9 h
noncomputable def zbw (K:PySem.W.Frag) (To:TEW) (T:TAW):TEW := fun ρ O R => To ρ O fun x O1 => ∃ a D,x = .own a ∧ DK K a D ∧ T ρ O1 fun ws O2 => ∃ i d,ws = [.d (.int i),.d (.int d)] ∧ R (.d (.int ((xU D i).getD d))) O2
theorem zap {to:TE} {t:TA} {To:TEW} {T:TAW} (ho:RefE K to To) (h:xM K t T):RefE K (Qn K to t) (zbw K To T) := by
  intro Γ O H ρ σ S r Q R hT k
  refine ho _ _ _ _ _ S r _ _ hT fun Γ1 O1 H1 x v l1 S1 rx h1 => ?_
  obtain ⟨a,D,rfl,hd,h1⟩ := h1
  refine ⟨a,D,rx,hd,h _ _ _ _ _ S1 (r.mono l1) _ _ h1 fun Γ2 O2 H2 ws vs l2 S2 rs h2 => ?_⟩
  obtain ⟨i,d,rfl,h2⟩ := h2
  cases rs with
  | cons rx t => cases t with
    | cons ry t =>
      cases t
      exact ⟨i,d,by rw [show _ = V.int i from rx,show _ = V.int d from ry],k _ _ _ _ _ (l1.trans l2) S2 Ys h2⟩
theorem Vb {X:Cx} {o e:Expr} {es:List Expr} {to:TE} {t:TA} {apos cpos:Pos} (hK:X.K = K) (ho:PE X o to) (ha:PA X (e :: es) t)
    (hbase:attributeBase o "get" X.env (eval o X.env) = eval o X.env := by rfl)
    (hfew:((backTo cpos (starEach (e :: es) X.env)).all (fun x => !x.1) && (backToKw cpos (keywordEach [] X.env)).all (fun x => x.1.isSome) && decide ((e :: es).length + ([]:List Keyword).length + (if ([]:List Keyword).isEmpty then 0 else 1) < 30)) = true := by rfl)
    (hline:(apos.endLine == cpos.line) = true := by rfl) (hs:starEach (e :: es) X.env = (false,eval e X.env) :: starEach es X.env := by rfl) (hplain:(backTo cpos (starEach es X.env)).any (·.1) = false := by rfl) :
    PE X (.Call (.Attribute o "get" apos) (e :: es) [] cpos) (Qn K to t) := by subst hK; exact zb9 ho ha hbase hfew hline hs hplain
theorem JV {s:SpW} {t:TA} {T:TAW} (h:xM K t T):RefE K (ZC (zb K s) [] E0 t) (ZN s [] T) := X3 h
theorem JW {s:SpW} {i:Int} {t:TA} {T:TAW} (h:xM K t T):RefE K (ZC (zb K s) [.int i] E0 t) (ZN s [.int i] T) := X3 h
theorem yG {T U:TSW} {D:EndsW} {ρ:WS} {O:OM} (J:WS → OM → Prop) (ht:∀ R:WS → OM → Prop,(∀ ρ' O',J ρ' O' → R ρ' O') → T { D with nx := R } ρ O) (hu:∀ ρ' O',J ρ' O' → U D ρ' O'):x5 T U D ρ O := ht (U D) hu
theorem xV.by {ws:List W} {keep:OM → Prop} {G:TGW} {TB:TSW} {D:EndsW} {ρ:WS} {O:OM} (Pv:Nat → WS → OM → Prop) (h0:Pv 0 ρ O) (hk:∀ i ρ O,Pv i ρ O → keep O)
    (hs:∀ i w ρ O,ws[i]? = some w → Pv i ρ O → ∀ R:WS → OM → Prop,(∀ ρ' O',Pv (i + 1) ρ' O' → R ρ' O') → G w ρ O fun ρ' O' => TB { D with nx := R,ct := R,bk := D.nx } ρ' O') (hd:∀ ρ O,Pv ws.length ρ O → D.nx ρ O):xV ws keep G TB D ρ O :=
  ⟨Pv,h0,hk,fun i w ρ O e p => hs i w ρ O e p _ fun _ _ z => z,hd⟩
theorem xV.rng {n:Nat} {f:Nat → Int} {G:TGW} {TB:TSW} {D:EndsW} {ρ:WS} {O:OM} (Pv:Nat → WS → OM → Prop) (h0:Pv 0 ρ O)
    (hs:∀ i ρ O,i < n → Pv i ρ O → ∀ R:WS → OM → Prop,(∀ ρ' O',Pv (i + 1) ρ' O' → R ρ' O') → G (.d (.int (f i))) ρ O fun ρ' O' => TB { D with nx := R,ct := R,bk := D.nx } ρ' O') (hd:∀ ρ O,Pv n ρ O → D.nx ρ O):xV ((List.range n).map fun i => .d (.int (f i))) (fun _ => True) G TB D ρ O :=
  xV.by Pv h0 (fun _ _ _ _ => trivial) (fun i w ρ O e p R hR => by
    rw [List.getElem?_map] at e
    cases hr:(List.range n)[i]? with
    | none => rw [hr] at e; cases e
    | some j =>
      rw [hr] at e
      cases e
      obtain ⟨hi,hj⟩ := List.getElem?_eq_some_iff.mp hr
      simp at hi hj
      subst hj
      exact hs i ρ O hi p R hR) (fun ρ O p => hd ρ O (by simpa using p))
end
noncomputable abbrev PF := Nat → Nat → Cel
noncomputable def genG (h w:Nat) (f:PF):List (List PyData) := (List.range h).map fun i => (List.range w).map fun j => uT (f i j)
noncomputable def setF (f:PF) (i j:Nat) (c:Cel):PF := fun a b => if a = i ∧ b = j then c else f a b
end L2
namespace L2
open PySem PySem.Spec PyProof.Rows
theorem xZ {X:Cx}:OpR X (binaryOp .Mult) (rI IntMulOk fun i j => .int (i * j)) := opI fun _ _ _ _ _ _ _ hc q => mul_int q hc
theorem mulL {a b:Int} (h1:-1000000000000 ≤ a) (h2:a ≤ 1000000000000):IntMulOk a b := (zb0 h1 h2).ok
theorem mulR {a b:Int} (h1:-1000000000000 ≤ b) (h2:b ≤ 1000000000000):IntMulOk a b := (KI h1 h2).ok
noncomputable def Bt (m:Nat) (c:Int):Prop := c.natAbs < 2 ^ m
theorem Bt.bits {m:Nat} {c:Int} (h:Bt m c):Builtin.Int.intBits c ≤ m := by
  unfold Builtin.Int.intBits
  by_cases hc:c = 0
  · simp [hc]
  · have hn:c.natAbs ≠ 0 := by omega
    simp only [beq_iff_eq,hc,if_false]
    exact (Nat.log2_lt hn).mpr h
theorem Bt.mono {m n:Nat} {a:Int} (ha:Bt m a) (h:m ≤ n):Bt n a := Nat.lt_of_lt_of_le ha (Nat.pow_le_pow_right (by decide) h)
theorem Bt.small {a:Int} (h1:-1000000000000 ≤ a) (h2:a ≤ 1000000000000):Bt 40 a := by
  unfold Bt
  have:(2:Nat) ^ 40 = 1099511627776 := by decide
  omega
end L2
namespace L2
open PySem PySem.Spec PyProof.Rows
structure KP where
  row:Int
  col:Int
  late:Bool
  ink:Int
  wrap:Bool
  putting:Bool
  home:Bool
noncomputable def kpT (k:KP):PyData := .tuple [.int k.row,.int k.col,.bool k.late,.int k.ink,.bool k.wrap,.bool k.putting,.bool k.home]
noncomputable def stK (ks:List Int):List (Key × W) := ks.map fun i => (Sum.inl i,W.d (.bool true))
structure ST where
  w:Nat
  h:Nat
  row:Int
  col:Int
  late:Bool
  ink:Int
  wrap:Bool
  putting:Bool
  home:Bool
  top:Int
  bottom:Int
  left:Int
  right:Int
  last:PyData
  pic:PF
  stops:List Int
  kept:List KP
noncomputable def fldW (p st kp:Addr) (S:ST):List (Str × W) := [("picture",.own p),("wide",.d (.int S.w)),("high",.d (.int S.h)),("row",.d (.int S.row)),("column",.d (.int S.col)),("late",.d (.bool S.late)),("ink",.d (.int S.ink)),("wrap",.d (.bool S.wrap)),("putting",.d (.bool S.putting)),("home",.d (.bool S.home)),("top",.d (.int S.top)),("bottom",.d (.int S.bottom)),("left",.d (.int S.left)),("right",.d (.int S.right)),("stops",.own st),("kept",.own kp),("last",.d S.last)]
noncomputable def ownW (q:Addr) (S:ST):List (Key × W) := [(Sum.inr "wide",.d (.int S.w)),(Sum.inr "high",.d (.int S.h)),(Sum.inr "top",.d (.int S.top)),(Sum.inr "left",.d (.int S.left)),(Sum.inr "cells",.own q),(Sum.inr "bottom",.d (.int S.bottom)),(Sum.inr "right",.d (.int S.right)),(Sum.inr "home",.d (.bool S.home)),(Sum.inr "putting",.d (.bool S.putting)),(Sum.inr "wrap",.d (.bool S.wrap)),(Sum.inr "last",.d S.last),(Sum.inr "late",.d (.bool S.late)),(Sum.inr "ink",.d (.int S.ink)),(Sum.inr "row",.d (.int S.row)),(Sum.inr "column",.d (.int S.col))]
section
variable {p st kp q:Addr} {S:ST}
theorem yV:(fldW p st kp S).length = 17 := rfl
theorem zaq:(ownW q S).length = 15 := rfl
theorem zI:(fldW p st kp S).lookup (Str.ofString "picture") = some (W.own p) := rfl
theorem yu:(fldW p st kp S).lookup (Str.ofString "wide") = some (W.d (.int S.w)) := rfl
theorem yv:(fldW p st kp S).lookup (Str.ofString "high") = some (W.d (.int S.h)) := rfl
theorem yQ:(fldW p st kp S).lookup (Str.ofString "row") = some (W.d (.int S.row)) := rfl
theorem z7:(fldW p st kp S).lookup (Str.ofString "column") = some (W.d (.int S.col)) := rfl
theorem yw:(fldW p st kp S).lookup (Str.ofString "late") = some (W.d (.bool S.late)) := rfl
theorem yO:(fldW p st kp S).lookup (Str.ofString "ink") = some (W.d (.int S.ink)) := rfl
theorem yx:(fldW p st kp S).lookup (Str.ofString "wrap") = some (W.d (.bool S.wrap)) := rfl
theorem zJ:(fldW p st kp S).lookup (Str.ofString "putting") = some (W.d (.bool S.putting)) := rfl
theorem yy:(fldW p st kp S).lookup (Str.ofString "home") = some (W.d (.bool S.home)) := rfl
theorem yR:(fldW p st kp S).lookup (Str.ofString "top") = some (W.d (.int S.top)) := rfl
theorem z9:(fldW p st kp S).lookup (Str.ofString "bottom") = some (W.d (.int S.bottom)) := rfl
theorem yz:(fldW p st kp S).lookup (Str.ofString "left") = some (W.d (.int S.left)) := rfl
theorem yf:(fldW p st kp S).lookup (Str.ofString "right") = some (W.d (.int S.right)) := rfl
theorem yg:(fldW p st kp S).lookup (Str.ofString "stops") = some (W.own st) := rfl
theorem yr:(fldW p st kp S).lookup (Str.ofString "kept") = some (W.own kp) := rfl
theorem yA:(fldW p st kp S).lookup (Str.ofString "last") = some (W.d S.last) := rfl
theorem yS {x:Int}:xi (Str.ofString "row") (.d (.int x)) (fldW p st kp S) = fldW p st kp { S with row := x } := rfl
theorem ya {x:Int}:xi (Str.ofString "column") (.d (.int x)) (fldW p st kp S) = fldW p st kp { S with col := x } := rfl
theorem yB {x:Bool}:xi (Str.ofString "late") (.d (.bool x)) (fldW p st kp S) = fldW p st kp { S with late := x } := rfl
theorem yT {x:Int}:xi (Str.ofString "ink") (.d (.int x)) (fldW p st kp S) = fldW p st kp { S with ink := x } := rfl
theorem yC {x:Bool}:xi (Str.ofString "wrap") (.d (.bool x)) (fldW p st kp S) = fldW p st kp { S with wrap := x } := rfl
theorem zK {x:Bool}:xi (Str.ofString "putting") (.d (.bool x)) (fldW p st kp S) = fldW p st kp { S with putting := x } := rfl
theorem yD {x:Bool}:xi (Str.ofString "home") (.d (.bool x)) (fldW p st kp S) = fldW p st kp { S with home := x } := rfl
theorem yU {x:Int}:xi (Str.ofString "top") (.d (.int x)) (fldW p st kp S) = fldW p st kp { S with top := x } := rfl
theorem yb {x:Int}:xi (Str.ofString "bottom") (.d (.int x)) (fldW p st kp S) = fldW p st kp { S with bottom := x } := rfl
theorem yE {x:Int}:xi (Str.ofString "left") (.d (.int x)) (fldW p st kp S) = fldW p st kp { S with left := x } := rfl
theorem yh {x:Int}:xi (Str.ofString "right") (.d (.int x)) (fldW p st kp S) = fldW p st kp { S with right := x } := rfl
theorem yF {x:PyData}:xi (Str.ofString "last") (.d x) (fldW p st kp S) = fldW p st kp { S with last := x } := rfl
end
structure StAt (O:OM) (C x dx p st kp:Addr) (S:ST):Prop where
  x:O x = some (.ins C dx (fldW p st kp S))
  p:O p = some (.grid (genG S.h S.w S.pic))
  st:O st = some (.dK (stK S.stops))
  kp:O kp = some (.lst ((S.kept.map kpT).map .d))
theorem neW {O:OM} {a b:Addr} {o u:OO} (h:O a = some o) (h':O b = some u) (d:o ≠ u):a ≠ b := by
  intro e; subst e; rw [h] at h'; exact d (Option.some.inj h')
section
variable {O O':OM} {C x dx p st kp:Addr} {S:ST}
theorem StAt.xp (s:StAt O C x dx p st kp S):x ≠ p := neW s.x s.p (by intro h; cases h)
theorem StAt.xs (s:StAt O C x dx p st kp S):x ≠ st := neW s.x s.st (by intro h; cases h)
theorem StAt.xk (s:StAt O C x dx p st kp S):x ≠ kp := neW s.x s.kp (by intro h; cases h)
theorem StAt.ps (s:StAt O C x dx p st kp S):p ≠ st := neW s.p s.st (by intro h; cases h)
theorem StAt.pk (s:StAt O C x dx p st kp S):p ≠ kp := neW s.p s.kp (by intro h; cases h)
noncomputable def But (O O':OM) (x p:Addr):Prop := ∀ b,b ≠ x → b ≠ p → O' b = O b
theorem But.refl:But O O x p := fun _ _ _ => rfl
theorem But.trans {O1 O2:OM} (a:But O O1 x p) (b:But O1 O2 x p):But O O2 x p := fun c h1 h2 => (b c h1 h2).trans (a c h1 h2)
theorem But.ux {o:OO}:But O (updO O x o) x p := fun _ h _ => zf h
theorem But.up {o:OO}:But O (updO O p o) x p := fun _ _ h => zf h
theorem StAt.fld (s:StAt O C x dx p st kp S) {S':ST} (hw:S'.w = S.w) (hh:S'.h = S.h) (hp:S'.pic = S.pic) (hst:S'.stops = S.stops := by rfl) (hk:S'.kept = S.kept := by rfl):StAt (updO O x (.ins C dx (fldW p st kp S'))) C x dx p st kp S' :=
  ⟨ze,by rw [zf (Ne.symm s.xp),hw,hh,hp]; exact s.p,by rw [zf (Ne.symm s.xs),hst]; exact s.st,by rw [zf (Ne.symm s.xk),hk]; exact s.kp⟩
theorem StAt.pic (s:StAt O C x dx p st kp S) {f:PF}:StAt (updO O p (.grid (genG S.h S.w f))) C x dx p st kp { S with pic := f } :=
  ⟨by rw [zf s.xp]; exact s.x,ze,by rw [zf (Ne.symm s.ps)]; exact s.st,by rw [zf (Ne.symm s.pk)]; exact s.kp⟩
theorem StAt.of (s:StAt O C x dx p st kp S) {S':ST} (hx:O' x = some (.ins C dx (fldW p st kp S'))) (hp:O' p = some (.grid (genG S'.h S'.w S'.pic))) (hw:S'.w = S.w) (b:But O O' x p) (hst:S'.stops = S.stops := by rfl) (hk:S'.kept = S.kept := by rfl):StAt O' C x dx p st kp S' :=
  ⟨hx,hp,by rw [b _ (Ne.symm s.xs) (Ne.symm s.ps),hst]; exact s.st,by rw [b _ (Ne.symm s.xk) (Ne.symm s.pk),hk]; exact s.kp⟩
theorem StAt.keep (s:StAt O C x dx p st kp S) {y z:Addr} (b:But O O' y z) (h1:x ≠ y) (h2:x ≠ z) (h3:p ≠ y) (h4:p ≠ z) (h5:st ≠ y) (h6:st ≠ z) (h7:kp ≠ y) (h8:kp ≠ z):StAt O' C x dx p st kp S :=
  ⟨by rw [b _ h1 h2]; exact s.x,by rw [b _ h3 h4]; exact s.p,by rw [b _ h5 h6]; exact s.st,by rw [b _ h7 h8]; exact s.kp⟩
end
structure Bds (S:ST):Prop where
  w1:1 ≤ S.w
  w2:S.w ≤ 24
  h1:1 ≤ S.h
  h2:S.h ≤ 12
  r0:0 ≤ S.row
  r1:S.row < S.h
  c0:0 ≤ S.col
  c1:S.col < S.w
  t0:0 ≤ S.top
  tb:S.top ≤ S.bottom
  b1:S.bottom < S.h
  l0:0 ≤ S.left
  lr:S.left ≤ S.right
  rr:S.right < S.w
  i0:0 ≤ S.ink
  i1:S.ink < 512
end L2
namespace L2
open PySem PySem.Spec PyProof.Rows
theorem zp {p q:Prop} [Decidable p] [Decidable q] {a b:Prop}:(if p then (if q then a else b) else b) = (if p ∧ q then a else b) := by
  by_cases hp:p <;> by_cases hq:q <;> simp [hp,hq]
noncomputable def yW:PyData → Prop
  | .none => True
  | .int i => 0 ≤ i ∧ i ≤ 1000000
  | _ => False
theorem yW.cs {n:PyData} (h:yW n):n = .none ∨ ∃ i,n = .int i ∧ 0 ≤ i ∧ i ≤ 1000000 := by
  cases n <;> first | exact .inl rfl | exact h.elim | exact .inr ⟨_,rfl,h.1,h.2⟩
noncomputable def xc:PyData → Int
  | .int i => if i > 1 then i else 1
  | _ => 1
theorem qZ {n:PyData}:1 ≤ xc n := by cases n <;> simp [xc]; split <;> omega
theorem zcB {n:PyData} (h:yW n):xc n ≤ 1000000 := by
  rcases h.cs with rfl | ⟨i,rfl,h0,h1⟩
  · decide
  · simp only [xc]; split <;> omega
noncomputable def Yw:SpW := fun ws O R => ∃ n,ws = [.d n] ∧ yW n ∧ R (.d (.int (xc n))) O
noncomputable def sI1 (P:Int → Prop) (f:Int → Int):SpW := fun ws O R => ∃ a,ws = [.d (.int a)] ∧ P a ∧ R (.d (.int (f a))) O
noncomputable def sI2 (P:Int → Int → Prop) (f:Int → Int → Int):SpW := fun ws O R => ∃ a b,ws = [.d (.int a),.d (.int b)] ∧ P a b ∧ R (.d (.int (f a b))) O
noncomputable def sI3 (P:Int → Int → Int → Prop) (f:Int → Int → Int → Int):SpW := fun ws O R => ∃ a b c,ws = [.d (.int a),.d (.int b),.d (.int c)] ∧ P a b c ∧ R (.d (.int (f a b c))) O
noncomputable def uW (n:PyData) (a b:Int):Int := if b < a + xc n - 1 then b else a + xc n - 1
noncomputable def jv:SpW := fun ws O R => ∃ n a b,ws = [.d n,.d (.int a),.d (.int b)] ∧ yW n ∧ R (.d (.int (uW n a b))) O
noncomputable def kW:SpW := fun ws O R => ∃ ns:List Int,∃ k:Nat,ws = [.d (.list (ns.map .int)),.d (.int k)] ∧ R (.d (.int (ns.getD k 0))) O
noncomputable def xO:PyData → Int
  | .int i => if i = 0 then 1 else i
  | _ => 1
theorem jw {n:PyData} (h:yW n):xO n = xc n := by
  rcases h.cs with rfl | ⟨i,rfl,h0,h1⟩
  · rfl
  · simp only [xO,xc]; split <;> split <;> omega
noncomputable def ja:SpW := fun ws O R => ∃ n,ws = [.d n] ∧ yW n ∧ R (.d (.int (xO n))) O
noncomputable def ZS:SpW := fun ws O R => ∃ n lo hi,ws = [.d (.int n),.d (.int lo),.d (.int hi)] ∧ R (.d (.bool (decide (lo ≤ n ∧ n ≤ hi)))) O
noncomputable def Qt:SpW := fun ws O R => ∃ a b:Nat,ws = [.d (.int a),.d (.int b)] ∧ 1 ≤ a ∧ a ≤ 24 ∧ 1 ≤ b ∧ b ≤ 12 ∧ R (.d (.bool true)) O
noncomputable def xm (m:PyData) (size:Int):Int := match m with
  | .int i => if i = 0 then size else if size < i then size else i
  | _ => size
noncomputable def Xp (n m:PyData) (size:Int):PyData := if xm m size < xc n then .none else .tuple [.int (xc n - 1),.int (xm m size - 1)]
noncomputable def ZT:SpW := fun ws O R => ∃ n m s,ws = [.d n,.d m,.d (.int s)] ∧ yW n ∧ yW m ∧ R (.d (Xp n m s)) O
noncomputable def xz (ink:Int) (n:PyData):Int := match n with
  | .int i => if i = 0 then 0
    else if 1 ≤ i ∧ i ≤ 3 then Builtin.bitOr ink ((xU [(0,64),(1,128),(2,256)] (i - 1)).getD 0)
    else if 4 ≤ i ∧ i ≤ 6 then Builtin.bitAnd ink (Builtin.bitNot ((xU [(0,64),(1,128),(2,256)] (i - 4)).getD 0))
    else if i = 7 then Builtin.bitXor ink 448
    else if 10 ≤ i ∧ i ≤ 17 then (i - 10) + 8 * Builtin.bitAnd (ink / 8) 7 + 64 * Builtin.bitAnd (ink / 64) 7
    else if 20 ≤ i ∧ i ≤ 27 then Builtin.bitAnd ink 7 + 8 * (i - 20) + 64 * Builtin.bitAnd (ink / 64) 7
    else ink
  | _ => 0
noncomputable def Ink (i:Int):Prop := 0 ≤ i ∧ i < 512
noncomputable def jb:SpW := sI3 (fun a b c => -1000 ≤ b ∧ b ≤ 1000 ∧ -1000 ≤ c ∧ c ≤ 1000) (fun a b c => a + 8 * b + 64 * c)
noncomputable def Xq:SpW := fun ws O R => ∃ ink n,ws = [.d (.int ink),.d n] ∧ Ink ink ∧ yW n ∧ R (.d (.int (xz ink n))) O
noncomputable def eT (S:ST):Int := if S.top ≤ S.row then S.top else 0
noncomputable def eB (S:ST):Int := if S.row ≤ S.bottom then S.bottom else S.h - 1
noncomputable def eL (S:ST):Int := if S.left ≤ S.col then S.left else 0
noncomputable def eR (S:ST):Int := if S.col ≤ S.right then S.right else S.w - 1
noncomputable def plS (r c:PyData) (S:ST):ST := if S.home = true then { S with row := uW r S.top S.bottom,col := uW c S.left S.right,late := false } else { S with row := uW r 0 (S.h - 1),col := uW c 0 (S.w - 1),late := false }
noncomputable def xJ (a b:PyData) (S:ST):ST := if xm b S.h < xc a then S else plS .none .none { S with top := xc a - 1,bottom := xm b S.h - 1 }
noncomputable def ve (a b:PyData) (S:ST):ST := if xm b S.w < xc a then S else plS .none .none { S with left := xc a - 1,right := xm b S.w - 1 }
noncomputable def xW (k:Int) (on:Bool) (S:ST):ST := if k = 1 then { S with wrap := on } else if k = 2 then { S with putting := on } else if k = 3 then plS .none .none { S with home := on } else S
noncomputable def xB (i:Int):Cel := (Str.ofString " ",i)
noncomputable def atF (f:PF) (i j:Int):Cel := f i.toNat j.toNat
noncomputable def mvP (f:PF) (ink t b l r dn ac:Int):PF := fun i j =>
  if t ≤ (i:Int) ∧ (i:Int) ≤ b ∧ l ≤ (j:Int) ∧ (j:Int) ≤ r then (if t ≤ i + dn ∧ i + dn ≤ b ∧ l ≤ j + ac ∧ j + ac ≤ r then atF f (i + dn) (j + ac) else xB ink) else f i j
noncomputable def mvS (t b l r dn ac:Int) (S:ST):ST := { S with pic := mvP S.pic S.ink t b l r dn ac }
noncomputable def sSt (C:Addr) (args:List W) (pre:ST → Prop) (f:ST → ST):SpW := fun ws O R => ∃ x dx p st kp S,ws = .own x :: args ∧ StAt O C x dx p st kp S ∧ pre S ∧ ∀ O',StAt O' C x dx p st kp (f S) → But O O' x p → R (.d .none) O'
noncomputable def Vc (C:Addr):SpW := fun ws O R => ∃ x dx p st kp S,ws = [.own x] ∧ StAt O C x dx p st kp S ∧ R (.d (.tuple [.int (eT S),.int (eB S),.int (eL S),.int (eR S)])) O
noncomputable def ZU (C:Addr):SpW := fun ws O R => ∃ r c,yW r ∧ yW c ∧ sSt C [.d r,.d c] (fun _ => True) (plS r c) ws O R
noncomputable def ZV (C:Addr):SpW := sSt C [] (fun _ => True) (plS .none .none)
noncomputable def Xr (C:Addr):SpW := fun ws O R => ∃ a b,yW a ∧ yW b ∧ sSt C [.d a,.d b] (fun _ => True) (xJ a b) ws O R
noncomputable def Xs (C:Addr):SpW := fun ws O R => ∃ a b,yW a ∧ yW b ∧ sSt C [.d a,.d b] (fun _ => True) (ve a b) ws O R
noncomputable def vN (ns:List PyData) (S:ST):ST := { S with ink := ns.foldl xz S.ink }
noncomputable def zar (C:Addr):SpW := fun ws O R => ∃ ns:List PyData,(∀ n ∈ ns,yW n) ∧ sSt C [.d (.tuple ns)] (fun S => Ink S.ink) (vN ns) ws O R
noncomputable def ZW (C:Addr):SpW := fun ws O R => ∃ k on,sSt C [.d (.tuple [.int k]),.d (.bool on)] (fun _ => True) (xW k on) ws O R
noncomputable def zel (s:Int) (S:ST):ST := { mvS S.row S.row S.col (eR S) 0 s S with late := false }
noncomputable def zfa (S:ST):ST := { S with col := eL S,late := false }
noncomputable def qt:SpW := fun ws O R => ∃ (a:Nat) (i:Int),ws = [.d (.int a),.d (.int i)] ∧ a ≤ 24 ∧ ∀ p,O p = none → R (.own p) (updO O p (.lst (((List.range a).map fun _ => uT (xB i)).map .d)))
noncomputable def qu:SpW := fun ws O R => ∃ (a b:Nat) (i:Int),ws = [.d (.int a),.d (.int b),.d (.int i)] ∧ 1 ≤ a ∧ a ≤ 24 ∧ 1 ≤ b ∧ b ≤ 12 ∧ ∀ p,O p = none → R (.own p) (updO O p (.grid (genG b a fun _ _ => xB i)))
noncomputable def stopsI (w:Nat):List Int := (List.range ((w - 1) / 4)).map fun i => (4 + (i:Nat) * 4:Int)
noncomputable def jc (w:Nat):List (Key × W) := stK (stopsI w)
noncomputable def Vd:SpW := fun ws O R => ∃ a:Nat,ws = [.d (.int a)] ∧ 1 ≤ a ∧ a ≤ 24 ∧ ∀ p,O p = none → R (.own p) (updO O p (.dK (jc a)))
noncomputable def st0 (w h:Nat) (f:PF):ST := ⟨w,h,0,0,false,0,true,false,false,0,h - 1,0,w - 1,.none,f,stopsI w,[]⟩
noncomputable def Ve (C:Addr):SpW := fun ws O R => ∃ x dx p,∃ w h:Nat,ws = [.own x] ∧ O x = some (.ins C dx [("picture",.own p),("wide",.d (.int w)),("high",.d (.int h))]) ∧ 1 ≤ w ∧ w ≤ 24 ∧
  ∀ st kp O',O st = none → O kp = none → O' x = some (.ins C dx (fldW p st kp (st0 w h fun _ _ => xB 0))) → O' st = some (.dK (jc w)) → O' kp = some (.lst []) → (∀ b,b ≠ x → b ≠ st → b ≠ kp → O' b = O b) → R (.d .none) O'
noncomputable def Qu (C:Addr):SpW := fun ws O R => ∃ x dx,∃ w h:Nat,ws = [.own x,.d (.int w),.d (.int h)] ∧ O x = some (.ins C dx []) ∧ 1 ≤ w ∧ w ≤ 24 ∧ 1 ≤ h ∧ h ≤ 12 ∧
  ∀ p st kp O',O p = none → O st = none → O kp = none → StAt O' C x dx p st kp (st0 w h fun _ _ => xB 0) → (∀ b,b ≠ x → b ≠ p → b ≠ st → b ≠ kp → O' b = O b) → R (.d .none) O'
theorem zas {i:Int} (h:Ink i):0 ≤ Builtin.bitAnd (i / 8) 7 ∧ Builtin.bitAnd (i / 8) 7 ≤ 7 := by
  obtain ⟨n,rfl⟩:∃ n:_root_.Fin 512,i = ((n.val:Nat):Int) := ⟨⟨i.toNat,by have := h.1; have := h.2; omega⟩,by have := h.1; simp only; omega⟩
  clear h
  revert n
  decide +kernel
theorem YY {i:Int} (h:Ink i):0 ≤ Builtin.bitAnd (i / 64) 7 ∧ Builtin.bitAnd (i / 64) 7 ≤ 7 := by
  obtain ⟨n,rfl⟩:∃ n:_root_.Fin 512,i = ((n.val:Nat):Int) := ⟨⟨i.toNat,by have := h.1; have := h.2; omega⟩,by have := h.1; simp only; omega⟩
  clear h
  revert n
  decide +kernel
theorem Zs {i:Int} {n:PyData} (h:Ink i):Ink (xz i n) := by
  cases n with
  | int k =>
    obtain ⟨m,rfl⟩:∃ m:_root_.Fin 512,i = ((m.val:Nat):Int) := ⟨⟨i.toNat,by have := h.1; have := h.2; omega⟩,by have := h.1; simp only; omega⟩
    by_cases hk:0 ≤ k ∧ k ≤ 27
    · obtain ⟨q,rfl⟩:∃ q:_root_.Fin 28,k = ((q.val:Nat):Int) := ⟨⟨k.toNat,by omega⟩,by simp only; omega⟩
      clear h hk
      unfold Ink
      revert m q
      decide +kernel
    · simp only [xz]
      rw [if_neg (by omega),if_neg (by omega),if_neg (by omega),if_neg (by omega),if_neg (by omega),if_neg (by omega)]
      exact h
  | _ => exact ⟨Int.le_refl 0,(by decide:(0:Int) < 512)⟩
end L2
namespace L2
open PySem PySem.Spec PyProof.Rows
end L2
namespace L2
open PySem PySem.Spec PyProof.Rows
end L2
namespace L2
open PySem PySem.Spec PyProof.Rows
theorem zbx {T1 T2 T3 U:TSW} {D:EndsW} {ρ:WS} {O:OM} (J:WS → OM → Prop) (ht:∀ R:WS → OM → Prop,(∀ ρ' O',J ρ' O' → R ρ' O') → x5 T1 (x5 T2 T3) { D with nx := R } ρ O) (hu:∀ ρ' O',J ρ' O' → U D ρ' O'):x5 T1 (x5 T2 (x5 T3 U)) D ρ O := ht (U D) hu
theorem Qv {S:ST} (h:Bds S):0 ≤ eL S ∧ eL S < S.w := by
  have := h.l0; have := h.lr; have := h.rr; have := h.w1
  unfold eL; split <;> omega
theorem Xt {S:ST} (h:Bds S):S.col ≤ eR S ∧ eR S < S.w := by
  have := h.l0; have := h.lr; have := h.rr; have := h.c1
  unfold eR; split <;> omega
theorem Bds.left {S:ST} (h:Bds S):Bds (zfa S) := { h with c0 := (Qv h).1,c1 := (Qv h).2 }
theorem Bds.cells {S:ST} {s:Int} (h:Bds S):Bds (zel s S) := { h with }
end L2
namespace L2
open PySem PySem.Spec PyProof.Rows
end L2
namespace L2
open PySem
theorem zfW {a0 a1 a2 v:W}:xi (Str.ofString "row") v [(Str.ofString "picture",a0),(Str.ofString "wide",a1),(Str.ofString "high",a2)] = [(Str.ofString "picture",a0),(Str.ofString "wide",a1),(Str.ofString "high",a2)] ++ [(Str.ofString "row",v)] := rfl
theorem zfX {a0 a1 a2 a3 v:W}:xi (Str.ofString "column") v [(Str.ofString "picture",a0),(Str.ofString "wide",a1),(Str.ofString "high",a2),(Str.ofString "row",a3)] = [(Str.ofString "picture",a0),(Str.ofString "wide",a1),(Str.ofString "high",a2),(Str.ofString "row",a3)] ++ [(Str.ofString "column",v)] := rfl
theorem zfY {a0 a1 a2 a3 a4 v:W}:xi (Str.ofString "late") v [(Str.ofString "picture",a0),(Str.ofString "wide",a1),(Str.ofString "high",a2),(Str.ofString "row",a3),(Str.ofString "column",a4)] = [(Str.ofString "picture",a0),(Str.ofString "wide",a1),(Str.ofString "high",a2),(Str.ofString "row",a3),(Str.ofString "column",a4)] ++ [(Str.ofString "late",v)] := rfl
theorem zfZ {a0 a1 a2 a3 a4 a5 v:W}:xi (Str.ofString "ink") v [(Str.ofString "picture",a0),(Str.ofString "wide",a1),(Str.ofString "high",a2),(Str.ofString "row",a3),(Str.ofString "column",a4),(Str.ofString "late",a5)] = [(Str.ofString "picture",a0),(Str.ofString "wide",a1),(Str.ofString "high",a2),(Str.ofString "row",a3),(Str.ofString "column",a4),(Str.ofString "late",a5)] ++ [(Str.ofString "ink",v)] := rfl
theorem zf0 {a0 a1 a2 a3 a4 a5 a6 v:W}:xi (Str.ofString "wrap") v [(Str.ofString "picture",a0),(Str.ofString "wide",a1),(Str.ofString "high",a2),(Str.ofString "row",a3),(Str.ofString "column",a4),(Str.ofString "late",a5),(Str.ofString "ink",a6)] = [(Str.ofString "picture",a0),(Str.ofString "wide",a1),(Str.ofString "high",a2),(Str.ofString "row",a3),(Str.ofString "column",a4),(Str.ofString "late",a5),(Str.ofString "ink",a6)] ++ [(Str.ofString "wrap",v)] := rfl
theorem zf1 {a0 a1 a2 a3 a4 a5 a6 a7 v:W}:xi (Str.ofString "putting") v [(Str.ofString "picture",a0),(Str.ofString "wide",a1),(Str.ofString "high",a2),(Str.ofString "row",a3),(Str.ofString "column",a4),(Str.ofString "late",a5),(Str.ofString "ink",a6),(Str.ofString "wrap",a7)] = [(Str.ofString "picture",a0),(Str.ofString "wide",a1),(Str.ofString "high",a2),(Str.ofString "row",a3),(Str.ofString "column",a4),(Str.ofString "late",a5),(Str.ofString "ink",a6),(Str.ofString "wrap",a7)] ++ [(Str.ofString "putting",v)] := rfl
theorem zf2 {a0 a1 a2 a3 a4 a5 a6 a7 a8 v:W}:xi (Str.ofString "home") v [(Str.ofString "picture",a0),(Str.ofString "wide",a1),(Str.ofString "high",a2),(Str.ofString "row",a3),(Str.ofString "column",a4),(Str.ofString "late",a5),(Str.ofString "ink",a6),(Str.ofString "wrap",a7),(Str.ofString "putting",a8)] = [(Str.ofString "picture",a0),(Str.ofString "wide",a1),(Str.ofString "high",a2),(Str.ofString "row",a3),(Str.ofString "column",a4),(Str.ofString "late",a5),(Str.ofString "ink",a6),(Str.ofString "wrap",a7),(Str.ofString "putting",a8)] ++ [(Str.ofString "home",v)] := rfl
theorem zfb {a0 a1 a2 a3 a4 a5 a6 a7 a8 a9 v:W}:xi (Str.ofString "top") v [(Str.ofString "picture",a0),(Str.ofString "wide",a1),(Str.ofString "high",a2),(Str.ofString "row",a3),(Str.ofString "column",a4),(Str.ofString "late",a5),(Str.ofString "ink",a6),(Str.ofString "wrap",a7),(Str.ofString "putting",a8),(Str.ofString "home",a9)] = [(Str.ofString "picture",a0),(Str.ofString "wide",a1),(Str.ofString "high",a2),(Str.ofString "row",a3),(Str.ofString "column",a4),(Str.ofString "late",a5),(Str.ofString "ink",a6),(Str.ofString "wrap",a7),(Str.ofString "putting",a8),(Str.ofString "home",a9)] ++ [(Str.ofString "top",v)] := rfl
theorem zfc {a0 a1 a2 a3 a4 a5 a6 a7 a8 a9 a10 v:W}:xi (Str.ofString "bottom") v [(Str.ofString "picture",a0),(Str.ofString "wide",a1),(Str.ofString "high",a2),(Str.ofString "row",a3),(Str.ofString "column",a4),(Str.ofString "late",a5),(Str.ofString "ink",a6),(Str.ofString "wrap",a7),(Str.ofString "putting",a8),(Str.ofString "home",a9),(Str.ofString "top",a10)] = [(Str.ofString "picture",a0),(Str.ofString "wide",a1),(Str.ofString "high",a2),(Str.ofString "row",a3),(Str.ofString "column",a4),(Str.ofString "late",a5),(Str.ofString "ink",a6),(Str.ofString "wrap",a7),(Str.ofString "putting",a8),(Str.ofString "home",a9),(Str.ofString "top",a10)] ++ [(Str.ofString "bottom",v)] := rfl
theorem zfd {a0 a1 a2 a3 a4 a5 a6 a7 a8 a9 a10 a11 v:W}:xi (Str.ofString "left") v [(Str.ofString "picture",a0),(Str.ofString "wide",a1),(Str.ofString "high",a2),(Str.ofString "row",a3),(Str.ofString "column",a4),(Str.ofString "late",a5),(Str.ofString "ink",a6),(Str.ofString "wrap",a7),(Str.ofString "putting",a8),(Str.ofString "home",a9),(Str.ofString "top",a10),(Str.ofString "bottom",a11)] = [(Str.ofString "picture",a0),(Str.ofString "wide",a1),(Str.ofString "high",a2),(Str.ofString "row",a3),(Str.ofString "column",a4),(Str.ofString "late",a5),(Str.ofString "ink",a6),(Str.ofString "wrap",a7),(Str.ofString "putting",a8),(Str.ofString "home",a9),(Str.ofString "top",a10),(Str.ofString "bottom",a11)] ++ [(Str.ofString "left",v)] := rfl
theorem zfe {a0 a1 a2 a3 a4 a5 a6 a7 a8 a9 a10 a11 a12 v:W}:xi (Str.ofString "right") v [(Str.ofString "picture",a0),(Str.ofString "wide",a1),(Str.ofString "high",a2),(Str.ofString "row",a3),(Str.ofString "column",a4),(Str.ofString "late",a5),(Str.ofString "ink",a6),(Str.ofString "wrap",a7),(Str.ofString "putting",a8),(Str.ofString "home",a9),(Str.ofString "top",a10),(Str.ofString "bottom",a11),(Str.ofString "left",a12)] = [(Str.ofString "picture",a0),(Str.ofString "wide",a1),(Str.ofString "high",a2),(Str.ofString "row",a3),(Str.ofString "column",a4),(Str.ofString "late",a5),(Str.ofString "ink",a6),(Str.ofString "wrap",a7),(Str.ofString "putting",a8),(Str.ofString "home",a9),(Str.ofString "top",a10),(Str.ofString "bottom",a11),(Str.ofString "left",a12)] ++ [(Str.ofString "right",v)] := rfl
theorem zff {a0 a1 a2 a3 a4 a5 a6 a7 a8 a9 a10 a11 a12 a13 v:W}:xi (Str.ofString "stops") v [(Str.ofString "picture",a0),(Str.ofString "wide",a1),(Str.ofString "high",a2),(Str.ofString "row",a3),(Str.ofString "column",a4),(Str.ofString "late",a5),(Str.ofString "ink",a6),(Str.ofString "wrap",a7),(Str.ofString "putting",a8),(Str.ofString "home",a9),(Str.ofString "top",a10),(Str.ofString "bottom",a11),(Str.ofString "left",a12),(Str.ofString "right",a13)] = [(Str.ofString "picture",a0),(Str.ofString "wide",a1),(Str.ofString "high",a2),(Str.ofString "row",a3),(Str.ofString "column",a4),(Str.ofString "late",a5),(Str.ofString "ink",a6),(Str.ofString "wrap",a7),(Str.ofString "putting",a8),(Str.ofString "home",a9),(Str.ofString "top",a10),(Str.ofString "bottom",a11),(Str.ofString "left",a12),(Str.ofString "right",a13)] ++ [(Str.ofString "stops",v)] := rfl
theorem zby {a0 a1 a2 a3 a4 a5 a6 a7 a8 a9 a10 a11 a12 a13 a14 v:W}:xi (Str.ofString "kept") v [(Str.ofString "picture",a0),(Str.ofString "wide",a1),(Str.ofString "high",a2),(Str.ofString "row",a3),(Str.ofString "column",a4),(Str.ofString "late",a5),(Str.ofString "ink",a6),(Str.ofString "wrap",a7),(Str.ofString "putting",a8),(Str.ofString "home",a9),(Str.ofString "top",a10),(Str.ofString "bottom",a11),(Str.ofString "left",a12),(Str.ofString "right",a13),(Str.ofString "stops",a14)] = [(Str.ofString "picture",a0),(Str.ofString "wide",a1),(Str.ofString "high",a2),(Str.ofString "row",a3),(Str.ofString "column",a4),(Str.ofString "late",a5),(Str.ofString "ink",a6),(Str.ofString "wrap",a7),(Str.ofString "putting",a8),(Str.ofString "home",a9),(Str.ofString "top",a10),(Str.ofString "bottom",a11),(Str.ofString "left",a12),(Str.ofString "right",a13),(Str.ofString "stops",a14)] ++ [(Str.ofString "kept",v)] := rfl
theorem zfg {a0 a1 a2 a3 a4 a5 a6 a7 a8 a9 a10 a11 a12 a13 a14 a15 v:W}:xi (Str.ofString "last") v [(Str.ofString "picture",a0),(Str.ofString "wide",a1),(Str.ofString "high",a2),(Str.ofString "row",a3),(Str.ofString "column",a4),(Str.ofString "late",a5),(Str.ofString "ink",a6),(Str.ofString "wrap",a7),(Str.ofString "putting",a8),(Str.ofString "home",a9),(Str.ofString "top",a10),(Str.ofString "bottom",a11),(Str.ofString "left",a12),(Str.ofString "right",a13),(Str.ofString "stops",a14),(Str.ofString "kept",a15)] = [(Str.ofString "picture",a0),(Str.ofString "wide",a1),(Str.ofString "high",a2),(Str.ofString "row",a3),(Str.ofString "column",a4),(Str.ofString "late",a5),(Str.ofString "ink",a6),(Str.ofString "wrap",a7),(Str.ofString "putting",a8),(Str.ofString "home",a9),(Str.ofString "top",a10),(Str.ofString "bottom",a11),(Str.ofString "left",a12),(Str.ofString "right",a13),(Str.ofString "stops",a14),(Str.ofString "kept",a15)] ++ [(Str.ofString "last",v)] := rfl
theorem Qw {a0 a1 a2:W}:List.lookup (Str.ofString "begin") [(Str.ofString "picture",a0),(Str.ofString "wide",a1),(Str.ofString "high",a2)] = none := rfl
theorem Qx {a0 a1 a2 a3 a4 a5 a6 a7 a8 a9 a10:W}:List.lookup (Str.ofString "high") [(Str.ofString "picture",a0),(Str.ofString "wide",a1),(Str.ofString "high",a2),(Str.ofString "row",a3),(Str.ofString "column",a4),(Str.ofString "late",a5),(Str.ofString "ink",a6),(Str.ofString "wrap",a7),(Str.ofString "putting",a8),(Str.ofString "home",a9),(Str.ofString "top",a10)] = some a2 := rfl
theorem Qy {a0 a1 a2 a3 a4 a5 a6 a7 a8 a9 a10 a11 a12:W}:List.lookup (Str.ofString "wide") [(Str.ofString "picture",a0),(Str.ofString "wide",a1),(Str.ofString "high",a2),(Str.ofString "row",a3),(Str.ofString "column",a4),(Str.ofString "late",a5),(Str.ofString "ink",a6),(Str.ofString "wrap",a7),(Str.ofString "putting",a8),(Str.ofString "home",a9),(Str.ofString "top",a10),(Str.ofString "bottom",a11),(Str.ofString "left",a12)] = some a1 := rfl
theorem Qz {a0 a1 a2 a3 a4 a5 a6 a7 a8 a9 a10 a11 a12 a13:W}:List.lookup (Str.ofString "wide") [(Str.ofString "picture",a0),(Str.ofString "wide",a1),(Str.ofString "high",a2),(Str.ofString "row",a3),(Str.ofString "column",a4),(Str.ofString "late",a5),(Str.ofString "ink",a6),(Str.ofString "wrap",a7),(Str.ofString "putting",a8),(Str.ofString "home",a9),(Str.ofString "top",a10),(Str.ofString "bottom",a11),(Str.ofString "left",a12),(Str.ofString "right",a13)] = some a1 := rfl
theorem zf3 { v:W}:xi (Str.ofString "picture") v [] = [] ++ [(Str.ofString "picture",v)] := rfl
theorem zf4 {a0 v:W}:xi (Str.ofString "wide") v [(Str.ofString "picture",a0)] = [(Str.ofString "picture",a0)] ++ [(Str.ofString "wide",v)] := rfl
theorem zf5 {a0 a1 v:W}:xi (Str.ofString "high") v [(Str.ofString "picture",a0),(Str.ofString "wide",a1)] = [(Str.ofString "picture",a0),(Str.ofString "wide",a1)] ++ [(Str.ofString "high",v)] := rfl
end L2
namespace L2
open PySem PySem.Spec PyProof.Rows
theorem JX {κ α:Type} [DecidableEq κ] {kvs:List (κ × α)} {k:κ} {v:α} (h:k ∉ kvs.map (·.1)):xE kvs k v = kvs ++ [(k,v)] := by
  unfold xE
  rw [if_neg]
  intro e
  rw [List.any_eq_true] at e
  obtain ⟨kv,h1,h2⟩ := e
  exact h (List.mem_map.mpr ⟨kv,h1,by simpa using h2⟩)
theorem ZX {κ α:Type} [DecidableEq κ]:∀ {more kvs:List (κ × α)},((kvs ++ more).map (·.1)).Nodup → vj kvs more = kvs ++ more
  | [],kvs,_ => by simp [vj]
  | (k,v) :: more,kvs,h => by
    have hk:k ∉ kvs.map (·.1) := by
      intro m
      rw [List.map_append,List.nodup_append] at h
      exact h.2.2 k m k (by simp) rfl
    show vj (xE kvs k v) more = _
    rw [JX hk,ZX (by simpa using h)]
    simp
theorem r3w {w:Nat} (h1:1 ≤ w) (h2:w ≤ 24):R3 4 w 4 ((w - 1) / 4) := by
  have e:∀ n:_root_.Fin 25,1 ≤ n.val → (4:Int) ≠ 0 ∧ Builtin.Range.small 4 ((n.val:Nat):Int) 4 = true ∧ Builtin.Range.rangeSize 4 ((n.val:Nat):Int) 4 = (((n.val - 1) / 4:Nat)) ∧ Builtin.divisionGoesByPylong (((n.val:Nat):Int) - 4) 4 = false := by decide +kernel
  exact e ⟨w,by omega⟩ h1
theorem zat {w:Nat} (h2:w ≤ 24):((jc w).map (·.1)).Nodup := by
  have e:∀ n:_root_.Fin 25,((List.range ((n.val - 1) / 4)).map fun i => (Sum.inl (4 + (i:Nat) * 4:Int):Key)).Nodup := by decide +kernel
  have := e ⟨w,by omega⟩
  unfold jc stK stopsI
  rw [List.map_map,List.map_map]
  exact this
noncomputable def JY (K:PySem.W.Frag):List V → Hp → VK → Prop := JD K
theorem zcC {X:Cx} {K:PySem.W.Frag} (hK:X.K = K) (hc:X.calm = true):y9 X (.type "dict") (JY K) := by subst hK; exact Ql hc
noncomputable def uc:List PyData → Option (List (Key × PyData))
  | [] => some []
  | .tuple [.int i,v] :: r => (uc r).map ((Sum.inl i,v) :: ·)
  | .tuple [.str i,v] :: r => (uc r).map ((Sum.inr i,v) :: ·)
  | _ => none
theorem jx {K:PySem.W.Frag} {Γ:Gh}:∀ {ds:List PyData} {kvs:List (Key × PyData)} {vs:List V},uc ds = some kvs → Reps K Γ.Z ds vs → ∃ us:List (Key × V),vR K Γ.Z vs us ∧ yZ K Γ (kvs.map fun kv => (kv.1,W.d kv.2)) us
  | [],kvs,vs,e,h => by
    cases e
    rw [show vs = [] from h]
    exact ⟨[],.nil,.nil⟩
  | d :: ds,kvs,vs,e,h => by
    obtain ⟨x,r,rfl,h1,h2⟩ := h
    unfold uc at e
    split at e
    · rename_i heq; cases heq
    · rename_i i v r' heq
      cases heq
      cases hp:uc ds with
      | none => rw [hp] at e; cases e
      | some k2 =>
        rw [hp] at e
        cases e
        obtain ⟨us,q1,q2⟩ := jx hp h2
        obtain ⟨a,xs,rfl,s1,y1,r1,e1,s2,y2,r2,e2,s3,e3⟩ := h1
        subst e1 e2
        rw [show r2 = [] from e3] at s1
        rw [show y1 = .int i from s2] at s1
        exact ⟨(Sum.inl i,y2) :: us,.cons ⟨a,rfl,s1⟩ q1,.cons ⟨rfl,s3⟩ q2⟩
    · rename_i i v r' heq
      cases heq
      cases hp:uc ds with
      | none => rw [hp] at e; cases e
      | some k2 =>
        rw [hp] at e
        cases e
        obtain ⟨us,q1,q2⟩ := jx hp h2
        obtain ⟨a,xs,rfl,s1,y1,r1,e1,s2,y2,r2,e2,s3,e3⟩ := h1
        subst e1 e2
        rw [show r2 = [] from e3] at s1
        rw [show y1 = .str i from s2] at s1
        exact ⟨(Sum.inr i,y2) :: us,.cons ⟨a,rfl,s1⟩ q1,.cons ⟨rfl,s3⟩ q2⟩
    · cases e
noncomputable def JZ:List W → OM → WK → Prop := fun xs O R => ∃ w ds kvs,xs = [w] ∧ yd O w = some (ds.map .d) ∧ uc ds = some kvs ∧ kvs.length ≤ 1000 ∧ ∀ p,O p = none → R (.own p) (updO O p (.dK (vj [] (kvs.map fun kv => (kv.1,.d kv.2)))))
theorem zcD {K:PySem.W.Frag}:RefC K (JY K) JZ := by
  rintro Γ O H xs vs S rs Q R ⟨w,ds,kvs,rfl,e,ep,hl,h⟩ k
  cases rs with
  | cons rx t =>
    cases t
    obtain ⟨a,ys,rfl,q1,q2⟩ := xo S rx e
    obtain ⟨us,p1,p2⟩ := jx ep (zN q2)
    refine ⟨a,ys,us,rfl,q1,p1.keep fun b xs hb => hb.same S.z,by rw [← Paired.length p2,List.length_map]; exact hl,fun p hp => ?_⟩
    have S' := S.newO hp (o := .dK (xG [] us)) (oo := .dK _) (by intro _ h; cases h) ⟨_,zn,uu p2 .nil⟩
    exact k _ _ _ _ _ (Le.refl _) S' x9 (h p (S.free hp).2.1)
end L2
namespace L2
open PySem PySem.Spec PyProof.Rows
section
variable {X:Cx} {K:PySem.W.Frag}
noncomputable def zbz (K:PySem.W.Frag):List V → Hp → VK → Prop := zba K
theorem zcE (hK:X.K = K):y9 X (.builtin "sorted") (zbz K) := by subst hK; exact XW
theorem jy {Z:Hp}:∀ ns:List Int,Reps K Z (ns.map PyData.int) (ns.map V.int)
  | [] => rfl
  | n :: ns => ⟨_,_,rfl,rfl,jy ns⟩
theorem QB {Γ:Gh} {kvs:List (Key × W)} {vs:List (Key × V)} (h:yZ K Γ kvs vs):kvs.map (·.1) = vs.map (·.1) := by
  unfold yZ at h
  induction h with
  | nil => rfl
  | cons a b ih => rw [List.map_cons,List.map_cons,a.1,ih]
noncomputable def zbA:List W → OM → WK → Prop := fun xs O R => ∃ w,∃ ns:List Int,xs = [w] ∧ yd O w = some ((ns.map .int).map .d) ∧ ns.length < 64 ∧ R (.d (.list ((srt ns).map .int))) O
theorem kh {Z:Hp}:∀ {ns:List Int} {vs:List V},Reps K Z (ns.map PyData.int) vs → vs = ns.map V.int
  | [],_,h => h
  | n :: ns,_,h => by
    obtain ⟨x,r,rfl,h1,h2⟩ := h
    rw [show x = V.int n from h1,kh h2]
    rfl
theorem zfh:RefC K (zbz K) zbA := by
  rintro Γ O H xs vs S rs Q R ⟨w,ns,rfl,e,hl,h⟩ k
  cases rs with
  | cons rx t =>
    cases t
    obtain ⟨a,us,rfl,q1,q2⟩ := xo S rx e
    have hu := kh (zN q2)
    subst hu
    refine ⟨a,ns,rfl,q1,hl,fun p hp => ?_⟩
    obtain ⟨Γ',l',S',r'⟩ := qY S (jy (srt ns)) hp
    exact k _ _ _ _ _ l' S' r' h
end
end L2
namespace L2
open PySem PySem.Spec PyProof.Rows
section
variable {K:PySem.W.Frag}
theorem RefR.weak {r:R2} {rw rw':R2W} (h:RefR K r rw) (imp:∀ x y O R,rw' x y O R → rw x y O R):RefR K r rw' := fun Γ O H x y v u S rx ry Q R hT k => h Γ O H x y v u S rx ry Q R (imp _ _ _ _ hT) k
theorem RefC.weak {r:List V → Hp → VK → Prop} {rw rw':List W → OM → WK → Prop} (h:RefC K r rw) (imp:∀ x O R,rw' x O R → rw x O R):RefC K r rw' := fun Γ O H xs vs S rs Q R hT k => h Γ O H xs vs S rs Q R (imp _ _ _ hT) k
noncomputable def ki (i:Nat):TEW := fun ρ O R => match ρ[i]? with
  | some (some w) => R w O
  | _ => False
theorem zem {i:Nat}:RefE K (UW i) (ki i) := fun Γ O H ρ σ S r Q R hT k => zca Γ O H ρ σ S r Q R (by
  unfold ki at hT
  split at hT
  · rename_i w e; exact ⟨w,e,hT⟩
  · exact hT.elim) k
noncomputable def vI0 (g:Int → Int → V):R2W := fun x y O R => match x,y with
  | .d (.int i),.d (.int j) => R (ofV (g i j)) O
  | _,_ => False
noncomputable def vI (C:Int → Int → Prop) (g:Int → Int → V):R2W := fun x y O R => match x,y with
  | .d (.int i),.d (.int j) => C i j ∧ R (ofV (g i j)) O
  | _,_ => False
theorem zfi {g:Int → Int → V} (hg:∀ i j,scV (g i j) = true := by intro _ _; rfl):RefR K (rI0 g) (vI0 g) := (zfO hg).weak fun x y O R h => by
  unfold vI0 at h
  split at h
  · exact ⟨_,_,rfl,rfl,h⟩
  · exact h.elim
theorem zf6 {C:Int → Int → Prop} {g:Int → Int → V} (hg:∀ i j,scV (g i j) = true := by intro _ _; rfl):RefR K (rI C g) (vI C g) := (r_I hg).weak fun x y O R h => by
  unfold vI at h
  split at h
  · exact ⟨_,_,rfl,rfl,h⟩
  · exact h.elim
noncomputable def vU (g:Int → V):W → OM → WK → Prop := fun x O R => match x with
  | .d (.int i) => R (ofV (g i)) O
  | _ => False
theorem zf7 {g:Int → V} (hg:∀ i,scV (g i) = true := by intro _; rfl):RefU K (rU g) (vU g) := fun Γ O H x v S rx Q R h k => r_U hg Γ O H x v S rx Q R (by
  unfold vU at h
  split at h
  · exact ⟨_,rfl,h⟩
  · exact h.elim) k
noncomputable def vEq:R2W := fun x y O R => match x,y with
  | .d (.int i),.d (.int j) => R (.d (.bool (decide (i = j)))) O
  | .d a,.d b => scD a = true ∧ scD b = true ∧ Zi (vOf a) (vOf b) = true ∧ R (.d (.bool (decide (vOf a = vOf b)))) O
  | _,_ => False
noncomputable def vNe:R2W := fun x y O R => match x,y with
  | .d (.int i),.d (.int j) => R (.d (.bool (!decide (i = j)))) O
  | .d a,.d b => scD a = true ∧ scD b = true ∧ Zi (vOf a) (vOf b) = true ∧ R (.d (.bool (!decide (vOf a = vOf b)))) O
  | _,_ => False
theorem zfj:RefR K rEq vEq := zfP.weak fun x y O R h => by
  unfold vEq at h
  split at h
  · rename_i i j
    have e:decide (vOf (.int i) = vOf (.int j)) = decide (i = j) := by simp [vOf]
    exact ⟨.int i,.int j,rfl,rfl,rfl,rfl,rfl,by rw [e]; exact h⟩
  · exact ⟨_,_,rfl,rfl,h⟩
  · exact h.elim
theorem zfk:RefR K rNe vNe := zfQ.weak fun x y O R h => by
  unfold vNe at h
  split at h
  · rename_i i j
    have e:decide (vOf (.int i) = vOf (.int j)) = decide (i = j) := by simp [vOf]
    exact ⟨.int i,.int j,rfl,rfl,rfl,rfl,rfl,by rw [e]; exact h⟩
  · exact ⟨_,_,rfl,rfl,h⟩
  · exact h.elim
noncomputable def QC:R2W := fun x y O R => match y with
  | .d .none => R (.d (.bool (ut x))) O
  | _ => False
noncomputable def Xu:R2W := fun x y O R => match y with
  | .d .none => R (.d (.bool (!ut x))) O
  | _ => False
theorem zen:RefR K (fun x y H Q => y = .non ∧ Q (.bl (decide (x = .non))) H) QC := ze2.weak fun x y O R h => by
  unfold QC at h
  split at h
  · exact ⟨rfl,h⟩
  · exact h.elim
theorem zcF:RefR K (fun x y H Q => y = .non ∧ Q (.bl (!decide (x = .non))) H) Xu := zdQ.weak fun x y O R h => by
  unfold Xu at h
  split at h
  · exact ⟨rfl,h⟩
  · exact h.elim
noncomputable def zau:R2W := fun x y O R => match y with
  | .d (.int i) => ∃ ws,yd O x = some ws ∧ ∃ w,atI ws i = some w ∧ R w O
  | _ => False
theorem zeo:RefR K (Qc K) zau := ze4.weak fun x y O R h => by
  unfold zau at h
  split at h
  · obtain ⟨ws,e,w,e2,h⟩ := h
    exact ⟨ws,_,w,rfl,e,e2,h⟩
  · exact h.elim
noncomputable def ZY (T:TEW):TTW := fun ρ O R => T ρ O fun x O1 => match x with
  | .d (.bool k) => R k O1
  | _ => False
theorem UK {t:TE} {T:TEW} (h:RefE K t T):x4 K (U2 t) (ZY T) := by
  intro Γ O H ρ σ S r0 Q R hT k
  refine h Γ O H ρ σ S r0 _ _ hT fun Γ1 O1 H1 x v l1 S1 rx h1 => ?_
  split at h1
  · exact ⟨_,rx,k _ _ _ _ l1 S1 h1⟩
  · exact h1.elim
theorem zfl {t:TE} {T:TEW} (h:RefE K t T):x4 K (tB t) (ZY T) := UK h
noncomputable def Vf (r r':R2W) (Ta Tb Tc:TEW):TEW := fun ρ O R => Ta ρ O fun x O1 => Tb ρ O1 fun y O2 => r x y O2 fun z O3 => match z with
  | .d (.bool k) => if k = true then Tc ρ O3 fun w O4 => r' y w O4 R else R (.d (.bool false)) O3
  | _ => False
theorem zav {r r':R2} {rw rw':R2W} {ta tb tc:TE} {Ta Tb Tc:TEW} (hr:RefR K r rw) (hr':RefR K r' rw') (ha:RefE K ta Ta) (hb:RefE K tb Tb) (hc:RefE K tc Tc):RefE K (XF r r' ta tb tc) (Vf rw rw' Ta Tb Tc) := by
  intro Γ O H ρ σ S r0 Q R h k
  refine ha Γ O H ρ σ S r0 _ _ h fun Γ1 O1 H1 x v l1 S1 rx h1 => ?_
  refine hb Γ1 O1 H1 ρ σ S1 (r0.mono l1) _ _ h1 fun Γ2 O2 H2 y u l2 S2 ry h2 => ?_
  refine hr Γ2 O2 H2 x y v u S2 (rx.mono l2) ry _ _ h2 fun Γ3 O3 H3 w z l3 S3 rz h3 => ?_
  split at h3
  · rename_i c
    refine ⟨c,rz,?_⟩
    have l13 := (l1.trans l2).trans l3
    cases c with
    | true =>
      rw [if_pos rfl] at h3 ⊢
      refine hc _ _ _ _ _ S3 (r0.mono l13) _ _ h3 fun Γ4 O4 H4 q z4 l4 S4 r4 h4 => ?_
      exact hr' _ _ _ _ _ _ _ S4 (ry.mono (l3.trans l4)) r4 _ _ h4 fun Γ5 O5 H5 w5 z5 l5 S5 r5 h5 => k _ _ _ _ _ ((l13.trans l4).trans l5) S5 r5 h5
    | false => rw [if_neg (by decide)] at h3 ⊢; exact k _ _ _ _ _ l13 S3 vP h3
  · exact h3.elim
noncomputable def zaw (K:PySem.W.Frag) (Ta:TEW) (f:Str):TEW := fun ρ O R => Ta ρ O fun x O1 => match x with
  | .own a => ∃ C dx fs,O1 a = some (.ins C dx fs) ∧ Cls K C ∧ NoAttr K C f ∧ ∃ w,fs.lookup f = some w ∧ R w O1
  | _ => False
theorem zep {ta:TE} {Ta:TEW} {f:Str} (ha:RefE K ta Ta):RefE K (Ks K ta f) (zaw K Ta f) := by
  intro Γ O H ρ σ S r0 Q R hT k
  refine ha Γ O H ρ σ S r0 _ _ hT fun Γ1 O1 H1 x v l1 S1 rx h1 => ?_
  split at h1
  · obtain ⟨C,dx,fs,ho,c,na,w,e,h1⟩ := h1
    obtain ⟨_,vs,q1,q2⟩ := S1.o _ _ ho
    obtain ⟨u,e',ru⟩ := (ZO q2).2 w e
    exact ⟨_,C,dx,vs,u,rx,q1,c,na,e',k _ _ _ _ _ l1 S1 ru h1⟩
  · exact h1.elim
noncomputable def QD (K:PySem.W.Frag) (Ta Tv:TEW) (f:Str):TSW := fun D ρ O => Tv ρ O fun y O1 => Ta ρ O1 fun x O2 => match x with
  | .own a => ∃ C dx fs,O2 a = some (.ins C dx fs) ∧ Cls K C ∧ NoAttr K C f ∧ fs.length < 1000 ∧ D.nx ρ (updO O2 a (.ins C dx (xi f y fs)))
  | _ => False
theorem zcG {ta tv:TE} {Ta Tv:TEW} {f:Str} (ha:RefE K ta Ta) (hv:RefE K tv Tv):RefS K (Kt K ta tv f) (QD K Ta Tv f) := by
  intro Γ O H ρ σ D DW S r0 hT e
  refine hv Γ O H ρ σ S r0 _ _ hT fun Γ1 O1 H1 y u l1 S1 ry h1 => ?_
  refine ha _ _ _ _ _ S1 (r0.mono l1) _ _ h1 fun Γ2 O2 H2 x v l2 S2 rx h2 => ?_
  split at h2
  · obtain ⟨C,dx,fs,ho,c,na,hl,h2⟩ := h2
    obtain ⟨_,vs,q1,q2⟩ := S2.o _ _ ho
    refine ⟨_,C,dx,vs,rx,q1,c,na,by rw [← Paired.length q2]; exact hl,?_⟩
    exact e.nx _ _ _ _ _ (l1.trans l2) (S2.put (oo := .ins C dx _) ho (by intro _ h; cases h) (by intro _ h; cases h) ⟨_,zn,Qr (ry.mono l2) q2⟩) (r0.mono (l1.trans l2)) h2
  · exact h2.elim
noncomputable def Vg (Td Ty:TEW):TEW := fun ρ O R => Td ρ O fun x O1 => Ty ρ O1 fun y O2 => match x,Zq y with
  | .own a,some k => ∃ kvs,O2 a = some (.dK kvs) ∧ ∃ w,xY kvs k = some w ∧ R w O2
  | _,_ => False
theorem zax {td ty:TE} {Td Ty:TEW} (hd:RefE K td Td) (hy:RefE K ty Ty):RefE K (JF td ty) (Vg Td Ty) := by
  intro Γ O H ρ σ S r0 Q R hT k
  refine hd Γ O H ρ σ S r0 _ _ hT fun Γ1 O1 H1 x v l1 S1 rx h1 => ?_
  refine hy _ _ _ _ _ S1 (r0.mono l1) _ _ h1 fun Γ2 O2 H2 y u l2 S2 ry h2 => ?_
  split at h2
  · rename_i ky ek
    obtain ⟨kvs,ho,w,ev,h2⟩ := h2
    obtain ⟨_,vs,q1,q2⟩ := S2.o _ _ ho
    obtain ⟨z,ez,rz⟩ := (JP q2).2 w ev
    exact ⟨_,vs,ky,z,rx,q1,Yt ry ek,ez,k _ _ _ _ _ (l1.trans l2) S2 rz h2⟩
  · exact h2.elim
noncomputable def Vh (Td Ty Tv:TEW):TSW := fun D ρ O => Tv ρ O fun w O1 => Td ρ O1 fun x O2 => Ty ρ O2 fun y O3 => match x,Zq y with
  | .own a,some k => ∃ kvs,O3 a = some (.dK kvs) ∧ kvs.length < 1000 ∧ D.nx ρ (updO O3 a (.dK (xE kvs k w)))
  | _,_ => False
theorem zay {td ty tv:TE} {Td Ty Tv:TEW} (hd:RefE K td Td) (hy:RefE K ty Ty) (hv:RefE K tv Tv):RefS K (JG td ty tv) (Vh Td Ty Tv) := by
  intro Γ O H ρ σ D DW S r0 hT e
  refine hv Γ O H ρ σ S r0 _ _ hT fun Γ1 O1 H1 w z l1 S1 rw h1 => ?_
  refine hd _ _ _ _ _ S1 (r0.mono l1) _ _ h1 fun Γ2 O2 H2 x v l2 S2 rx h2 => ?_
  refine hy _ _ _ _ _ S2 (r0.mono (l1.trans l2)) _ _ h2 fun Γ3 O3 H3 y u l3 S3 ry h3 => ?_
  split at h3
  · rename_i ky ek
    obtain ⟨kvs,ho,hl,h3⟩ := h3
    obtain ⟨_,vs,q1,q2⟩ := S3.o _ _ ho
    refine ⟨_,vs,ky,rx,q1,Yt ry ek,by rw [← Paired.length q2]; exact hl,?_⟩
    have l13 := (l1.trans l2).trans l3
    exact e.nx _ _ _ _ _ l13 (S3.put (oo := .dK _) ho (by intro _ h; cases h) (by intro _ h; cases h) ⟨_,zn,YX ((rw.mono l2).mono l3) q2⟩) (r0.mono l13) h3
  · exact h3.elim
noncomputable def vI2 (g:Int → Int → Int):List W → OM → WK → Prop := fun xs O R => match xs with
  | [.d (.int i),.d (.int j)] => R (.d (.int (g i j))) O
  | _ => False
theorem zfm {g:Int → Int → Int}:RefC K (fun xs H Q => ∃ i j,xs = [.int i,.int j] ∧ Q (.int (g i j)) H) (vI2 g) := zfT.weak fun x O R h => by
  unfold vI2 at h
  split at h
  · exact ⟨_,_,rfl,h⟩
  · exact h.elim
end
end L2
namespace PySem
open Sem (wp)
noncomputable abbrev xD (h:Heap) (z TI TO:Addr) (f0:Value) (f1:Bool):Prop :=
  h.get? z = some { cls := .type "zip",dict := none,data := .fields #[f0,.bool f1,.bool false,.ref TI,.ref TO],slots := #[] }
structure ZlApart (z TI TO i1 i2:Addr) (fp1 fp2:List Addr):Prop where
  TIz:TI ≠ z
  TOz:TO ≠ z
  i1z:i1 ≠ z
  i2z:i2 ≠ z
  TITO:TI ≠ TO
  TIi1:TI ≠ i1
  TIi2:TI ≠ i2
  TOi1:TO ≠ i1
  TOi2:TO ≠ i2
  i12:i1 ≠ i2
  z1:z ∉ fp1
  z2:z ∉ fp2
  o1:TO ∉ fp1
  o2:TO ∉ fp2
  i1f:i1 ∉ fp2
  i2f:i2 ∉ fp1
section
variable {prog:Program} {w:World} {A:Around} {E:Value → Shared → Prop} {s:Shared}
theorem k9 {M:Model} {a:Addr} {Q:Option Obj → Shared → Prop} (h:Q (s.heap.get? a) s):wpAny M A (loadIfAlive a) Q E s := fun _ _ _ => h
variable {z TI TO i1 i2:Addr} {fp1 fp2:List Addr} {n1 n2:Nat} {P1 P2:Nat → Value → Prop} {St1 St2:Nat → Heap → Prop}
noncomputable def ZlS (z TI TO i1 i2:Addr) (St1 St2:Nat → Heap → Prop) (k:Nat) (h:Heap):Prop :=
  ∃ f0 f1 a b,xD h z TI TO f0 f1 ∧ ((f0 = .none ∧ f1 = false) ∨ ∃ (t:Addr) (o:Obj),f0 = rawInt (t:Nat) ∧ h.get? t = some o ∧ t ≠ z ∧ t ≠ TO ∧ t ≠ i1 ∧ t ≠ i2) ∧ IsPair h TI (.ref i1) (.ref i2) ∧ IsPair h TO a b ∧ St1 k h ∧ St2 k h
theorem Vi {k:Nat} {a b:Value} {Q:Value → Shared → Prop} (D:ZlApart z TI TO i1 i2 fp1 fp2) (D1:Draws prog w A i1 fp1 n1 P1 St1) (D2:Draws prog w A i2 fp2 n2 P2 St2)
    (hz:xD s.heap z TI TO .none false) (hTI:IsPair s.heap TI (.ref i1) (.ref i2)) (hTO:IsPair s.heap TO a b) (h1:St1 k s.heap) (h2:St2 k s.heap) (k1:k < n1) (k2:k < n2)
    (hQ:∀ x y h' tk,P1 k x → P2 k y → IsPair h' s.heap.objs.size x y → ZlS z TI TO i1 i2 St1 St2 (k + 1) h' → (∀ c o,c ≠ z → c ≠ TO → c ≠ i1 → c ≠ i2 → s.heap.get? c = some o → h'.get? c = some o) → Q (.ref s.heap.objs.size) { s with heap := h',toks := tk }) :
    wpAny (model prog w) A (Builtin.«zip.__next__» ⟨[.ref z],[]⟩) (fun fin s' => ∃ v,fin = .done (.ret v) ∧ Q v s') E s := by
  show wpAny _ _ (field (.ref z) 2 >>= _) _ _ _
  refine wpAny_bind (wpAny_field hz rfl (x := .bool false) rfl ?_)
  show wpAny _ _ (field (.ref z) 3 >>= _) _ _ _
  refine wpAny_bind (wpAny_field hz rfl (x := .ref TI) rfl ?_)
  refine wpAny_bind (wpAny_seqItems hTI rfl ?_)
  show wpAny _ _ (Builtin.SmallTypes.ownedTupleIsFree (.ref z) >>= _) _ _ _
  refine wpAny_bind ?_
  unfold Builtin.SmallTypes.ownedTupleIsFree
  refine wpAny_bind (wpAny_field hz rfl (x := .none) rfl (wpAny_pure ?_))
  simp only [if_true]
  refine wpAny_bind (wpAny_rule ?_)
  refine wpAny_bind (wpAny_field hz rfl (x := .ref TO) rfl ?_)
  refine wpAny_bind (wpAny_setField_rec hz (by simp) fun h₁ hz₁ hs₁ => ?_)
  replace hz₁:xD h₁ z TI TO .ellipsis false := hz₁
  refine wpAny_bind ?_
  simp only [List.zipIdx_cons,List.zipIdx_nil,List.forIn_cons,List.forIn_nil]
  refine wpAny_bind (wpAny_bind (wpAny_onRaise ?_))
  show wpAny _ _ (Builtin.SmallTypes.nextOf (.ref i1) >>= _) _ _ _
  refine wpAny_bind (D1.item k _ _ _ k1 (D1.frame k _ _ h1 fun c hc o e => hs₁.extBut _ _ (fun q => D.z1 (q ▸ hc)) e) fun x h₂ tk hx h1₂ hs₂ => wpAny_pure ?_)
  replace hs₂:Heap.SameBut i1 h₁ h₂ := hs₂
  have hTO₂:IsPair h₂ TO a b := hs₂.extBut _ _ D.TOi1 (hs₁.extBut _ _ D.TOz hTO)
  refine wpAny_bind (wpAny_seqItems hTO₂ rfl ?_)
  refine wpAny_bind (wpAny_updateSeq_pair hTO₂ fun h₃ hTO₃ hs₃ => ?_)
  replace hTO₃:IsPair h₃ TO x b := hTO₃
  refine wpAny_bind (wpAny_letGo (wpAny_pure ?_))
  refine wpAny_bind (wpAny_bind (wpAny_onRaise ?_))
  show wpAny _ _ (Builtin.SmallTypes.nextOf (.ref i2) >>= _) _ _ _
  refine wpAny_bind (D2.item k _ _ _ k2 (D2.frame k _ _ h2 fun c hc o e => hs₃.extBut _ _ (fun q => D.o2 (q ▸ hc)) (hs₂.extBut _ _ (fun q => D.i1f (q ▸ hc)) (hs₁.extBut _ _ (fun q => D.z2 (q ▸ hc)) e))) fun y h₄ tk' hy h2₄ hs₄ => wpAny_pure ?_)
  replace hs₄:Heap.SameBut i2 h₃ h₄ := hs₄
  have hTO₄:IsPair h₄ TO x b := hs₄.extBut _ _ D.TOi2 hTO₃
  refine wpAny_bind (wpAny_seqItems hTO₄ rfl ?_)
  refine wpAny_bind (wpAny_updateSeq_pair hTO₄ fun h₅ hTO₅ hs₅ => ?_)
  replace hTO₅:IsPair h₅ TO x y := hTO₅
  refine wpAny_bind (wpAny_letGo (wpAny_pure (wpAny_pure ?_)))
  refine wpAny_bind (wpAny_seqItems hTO₅ rfl ?_)
  refine wpAny_bind (wpAny_newTuple ?_)
  have hsz:h₅.objs.size = s.heap.objs.size := by rw [hs₅.1,hs₄.1,hs₃.1,hs₂.1,hs₁.1]
  have hz₅:xD h₅ z TI TO .ellipsis false := hs₅.extBut _ _ D.TOz.symm (hs₄.extBut _ _ D.i2z.symm (hs₃.extBut _ _ D.TOz.symm (hs₂.extBut _ _ D.i1z.symm hz₁)))
  have hk₅:∀ c o,c ≠ z → c ≠ TO → c ≠ i1 → c ≠ i2 → s.heap.get? c = some o → h₅.get? c = some o := fun c o c1 c2 c3 c4 e =>
    hs₅.extBut _ _ c2 (hs₄.extBut _ _ c4 (hs₃.extBut _ _ c2 (hs₂.extBut _ _ c3 (hs₁.extBut _ _ c1 e))))
  have h1₅:St1 (k + 1) h₅ := D1.frame _ _ _ h1₂ fun c hc o e => hs₅.extBut _ _ (fun q => D.o1 (q ▸ hc)) (hs₄.extBut _ _ (fun q => D.i2f (q ▸ hc)) (hs₃.extBut _ _ (fun q => D.o1 (q ▸ hc)) e))
  have h2₅:St2 (k + 1) h₅ := D2.frame _ _ _ h2₄ fun c hc o e => hs₅.extBut _ _ (fun q => D.o2 (q ▸ hc)) e
  have hzlt:z < h₅.objs.size := Heap.lt_size hz₅
  have hTOlt:TO < h₅.objs.size := Heap.lt_size hTO₅
  have hi1lt:i1 < h₅.objs.size := by obtain ⟨_,e⟩ := D1.live _ _ h1₅; exact Heap.lt_size e
  have hi2lt:i2 < h₅.objs.size := by obtain ⟨_,e⟩ := D2.live _ _ h2₅; exact Heap.lt_size e
  show wpAny _ _ (Builtin.SmallTypes.ownedTupleHandOut (.ref z) (.ref h₅.objs.size) >>= _) _ _ _
  refine wpAny_bind ?_
  unfold Builtin.SmallTypes.ownedTupleHandOut
  have hz₆:xD (h₅.push { cls := .type "tuple",data := .seq #[x,y] }) z TI TO .ellipsis false := Heap.get?_push_of_some _ hz₅
  refine wpAny_bind (wpAny_setField_rec hz₆ (by simp) fun h₇ hz₇ hs₇ => ?_)
  replace hz₇:xD h₇ z TI TO (rawInt h₅.objs.size) false := hz₇
  refine wpAny_setField_rec hz₇ (by simp) fun h₈ hz₈ hs₈ => ?_
  replace hz₈:xD h₈ z TI TO (rawInt h₅.objs.size) false := hz₈
  have up:∀ c o,c ≠ z → h₅.get? c = some o → h₈.get? c = some o := fun c o c1 e => hs₈.extBut _ _ c1 (hs₇.extBut _ _ c1 (Heap.get?_push_of_some _ e))
  have hT₈:IsPair h₈ h₅.objs.size x y := hs₈.extBut _ _ (Nat.ne_of_gt hzlt) (hs₇.extBut _ _ (Nat.ne_of_gt hzlt) (Heap.get?_push_size _ rfl))
  have fin:ZlS z TI TO i1 i2 St1 St2 (k + 1) h₈ := ⟨_,_,x,y,hz₈,.inr ⟨_,_,rfl,hT₈,Nat.ne_of_gt hzlt,Nat.ne_of_gt hTOlt,Nat.ne_of_gt hi1lt,Nat.ne_of_gt hi2lt⟩,up _ _ D.TIz (hk₅ _ _ D.TIz D.TITO D.TIi1 D.TIi2 hTI),up _ _ D.TOz hTO₅,
    D1.frame _ _ _ h1₅ fun c hc o e => up _ _ (fun q => D.z1 (q ▸ hc)) e,D2.frame _ _ _ h2₅ fun c hc o e => up _ _ (fun q => D.z2 (q ▸ hc)) e⟩
  refine wpAny_pure ⟨_,rfl,?_⟩
  show Q (.ref h₅.objs.size) _
  rw [hsz] at hT₈ ⊢
  exact hQ x y h₈ tk' hx hy hT₈ fin fun c o c1 c2 c3 c4 e => up c o c1 (hk₅ c o c1 c2 c3 c4 e)
theorem ZZ {f1:Bool} {t:Addr} {o0:Obj} {Q:Bool → Shared → Prop} (hz:xD s.heap z TI TO (rawInt (t:Nat)) f1) (ht:s.heap.get? t = some o0)
    (h:∀ h₁,xD h₁ z TI TO (rawInt (t:Nat)) true → (∀ c o,c ≠ z → s.heap.get? c = some o → h₁.get? c = some o) → h₁.objs.size = s.heap.objs.size → Q false { s with heap := h₁ }) :
    wpAny (model prog w) A (Builtin.SmallTypes.ownedTupleIsFree (.ref z)) Q E s := by
  unfold Builtin.SmallTypes.ownedTupleIsFree
  refine wpAny_bind (wpAny_field hz rfl (x := rawInt (t:Nat)) rfl ?_)
  show wpAny _ _ (loadIfAlive ((t:Int).toNat) >>= _) _ _ _
  rw [Int.toNat_natCast]
  refine wpAny_bind (k9 ?_)
  rw [ht,if_neg (by simp)]
  refine wpAny_bind (wpAny_field hz rfl (x := .bool f1) rfl ?_)
  cases f1 with
  | true =>
    rw [if_neg (by decide)]
    exact wpAny_pure (h s.heap hz (fun _ _ _ e => e) rfl)
  | false =>
    rw [if_pos (by decide)]
    refine wpAny_bind (wpAny_setField_rec hz (by simp) fun h₁ hz₁ hs₁ => wpAny_pure (h h₁ hz₁ (fun c o hc e => hs₁.extBut _ _ hc e) hs₁.1))
theorem V9 {k:Nat} {a b:Value} {f1:Bool} {t:Addr} {o0:Obj} {Q:Value → Shared → Prop} (D:ZlApart z TI TO i1 i2 fp1 fp2) (D1:Draws prog w A i1 fp1 n1 P1 St1) (D2:Draws prog w A i2 fp2 n2 P2 St2)
    (hz:xD s.heap z TI TO (rawInt (t:Nat)) f1) (ht:s.heap.get? t = some o0) (tz:t ≠ z) (tO:t ≠ TO) (t1:t ≠ i1) (t2:t ≠ i2) (hTI:IsPair s.heap TI (.ref i1) (.ref i2)) (hTO:IsPair s.heap TO a b) (h1:St1 k s.heap) (h2:St2 k s.heap) (k1:k < n1) (k2:k < n2)
    (hQ:∀ x y h' tk,P1 k x → P2 k y → IsPair h' s.heap.objs.size x y → ZlS z TI TO i1 i2 St1 St2 (k + 1) h' → (∀ c o,c ≠ z → c ≠ TO → c ≠ i1 → c ≠ i2 → s.heap.get? c = some o → h'.get? c = some o) → Q (.ref s.heap.objs.size) { s with heap := h',toks := tk }) :
    wpAny (model prog w) A (Builtin.«zip.__next__» ⟨[.ref z],[]⟩) (fun fin s' => ∃ v,fin = .done (.ret v) ∧ Q v s') E s := by
  show wpAny _ _ (field (.ref z) 2 >>= _) _ _ _
  refine wpAny_bind (wpAny_field hz rfl (x := .bool false) rfl ?_)
  show wpAny _ _ (field (.ref z) 3 >>= _) _ _ _
  refine wpAny_bind (wpAny_field hz rfl (x := .ref TI) rfl ?_)
  refine wpAny_bind (wpAny_seqItems hTI rfl ?_)
  show wpAny _ _ (Builtin.SmallTypes.ownedTupleIsFree (.ref z) >>= _) _ _ _
  refine wpAny_bind (ZZ hz ht fun h₁ hz₁ hk₁ hsz₁ => ?_)
  rw [if_neg (by decide)]
  refine wpAny_bind ?_
  rw [← Array.forIn_toList]
  simp only [List.forIn_cons,List.forIn_nil]
  refine wpAny_bind (wpAny_bind (wpAny_holding ?_))
  show wpAny _ _ (Builtin.SmallTypes.nextOf (.ref i1) >>= _) _ _ _
  refine wpAny_bind (D1.item k _ _ _ k1 (D1.frame k _ _ h1 fun c hc o e => hk₁ _ _ (fun q => D.z1 (q ▸ hc)) e) fun x h₂ tk hx h1₂ hs₂ => wpAny_pure ?_)
  replace hs₂:Heap.SameBut i1 h₁ h₂ := hs₂
  refine wpAny_pure ?_
  refine wpAny_bind (wpAny_bind (wpAny_holding ?_))
  show wpAny _ _ (Builtin.SmallTypes.nextOf (.ref i2) >>= _) _ _ _
  refine wpAny_bind (D2.item k _ _ _ k2 (D2.frame k _ _ h2 fun c hc o e => hs₂.extBut _ _ (fun q => D.i1f (q ▸ hc)) (hk₁ _ _ (fun q => D.z2 (q ▸ hc)) e)) fun y h₃ tk' hy h2₃ hs₃ => wpAny_pure ?_)
  replace hs₃:Heap.SameBut i2 h₂ h₃ := hs₃
  refine wpAny_pure (wpAny_pure ?_)
  refine wpAny_bind (wpAny_newTuple (hsz := by show (2:Nat) ≤ 2 ^ 24; decide) ?_)
  have hsz:h₃.objs.size = s.heap.objs.size := by rw [hs₃.1,hs₂.1,hsz₁]
  have up:∀ c o,c ≠ z → c ≠ i1 → c ≠ i2 → s.heap.get? c = some o → (h₃.push { cls := .type "tuple",data := .seq #[x,y] }).get? c = some o := fun c o c1 c2 c3 e => Heap.get?_push_of_some _ (hs₃.extBut _ _ c3 (hs₂.extBut _ _ c2 (hk₁ _ _ c1 e)))
  have hz₃:xD (h₃.push { cls := .type "tuple",data := .seq #[x,y] }) z TI TO (rawInt (t:Nat)) true := Heap.get?_push_of_some _ (hs₃.extBut _ _ D.i2z.symm (hs₂.extBut _ _ D.i1z.symm hz₁))
  have fin:ZlS z TI TO i1 i2 St1 St2 (k + 1) (h₃.push { cls := .type "tuple",data := .seq #[x,y] }) := ⟨_,_,a,b,hz₃,.inr ⟨t,o0,rfl,up _ _ tz t1 t2 ht,tz,tO,t1,t2⟩,up _ _ D.TIz D.TIi1 D.TIi2 hTI,up _ _ D.TOz D.TOi1 D.TOi2 hTO,
    D1.frame _ _ _ h1₂ fun c hc o e => Heap.get?_push_of_some _ (hs₃.extBut _ _ (fun q => D.i2f (q ▸ hc)) e),D2.frame _ _ _ h2₃ fun c hc o e => Heap.get?_push_of_some _ e⟩
  have hT:IsPair (h₃.push { cls := .type "tuple",data := .seq #[x,y] }) h₃.objs.size x y := Heap.get?_push_size _ rfl
  refine wpAny_pure ⟨_,rfl,?_⟩
  show Q (.ref h₃.objs.size) _
  rw [hsz] at hT ⊢
  exact hQ x y _ tk' hx hy hT fin fun c o c1 c2 c3 c4 e => up c o c1 c3 c4 e
theorem Ua {k:Nat} {a b:Value} {Q:Fin → Shared → Prop} (D:ZlApart z TI TO i1 i2 fp1 fp2) (D1:Draws prog w A i1 fp1 n1 P1 St1) (D2:Draws prog w A i2 fp2 n2 P2 St2)
    (hz:xD s.heap z TI TO .none false) (hTI:IsPair s.heap TI (.ref i1) (.ref i2)) (hTO:IsPair s.heap TO a b) (h1:St1 k s.heap) (h2:St2 k s.heap) (hend:k = n1 ∨ (k < n1 ∧ k = n2))
    (hE:∀ h' e tk,(∀ c o,c ≠ z → c ≠ TO → c ≠ i1 → c ≠ i2 → s.heap.get? c = some o → h'.get? c = some o) → (∃ o,h'.get? e = some o ∧ o.cls = .type "StopIteration") → E (.ref e) { s with heap := h',toks := tk }) :
    wpAny (model prog w) A (Builtin.«zip.__next__» ⟨[.ref z],[]⟩) Q E s := by
  show wpAny _ _ (field (.ref z) 2 >>= _) _ _ _
  refine wpAny_bind (wpAny_field hz rfl (x := .bool false) rfl ?_)
  show wpAny _ _ (field (.ref z) 3 >>= _) _ _ _
  refine wpAny_bind (wpAny_field hz rfl (x := .ref TI) rfl ?_)
  refine wpAny_bind (wpAny_seqItems hTI rfl ?_)
  show wpAny _ _ (Builtin.SmallTypes.ownedTupleIsFree (.ref z) >>= _) _ _ _
  refine wpAny_bind ?_
  unfold Builtin.SmallTypes.ownedTupleIsFree
  refine wpAny_bind (wpAny_field hz rfl (x := .none) rfl (wpAny_pure ?_))
  simp only [if_true]
  refine wpAny_bind (wpAny_rule ?_)
  refine wpAny_bind (wpAny_field hz rfl (x := .ref TO) rfl ?_)
  refine wpAny_bind (wpAny_setField_rec hz (by simp) fun h₁ hz₁ hs₁ => ?_)
  replace hz₁:xD h₁ z TI TO .ellipsis false := hz₁
  refine wpAny_bind ?_
  simp only [List.zipIdx_cons,List.zipIdx_nil,List.forIn_cons,List.forIn_nil]
  refine wpAny_bind (wpAny_bind (wpAny_onRaise ?_))
  show wpAny _ _ (Builtin.SmallTypes.nextOf (.ref i1) >>= _) _ _ _
  have g1:St1 k h₁ := D1.frame k _ _ h1 fun c hc o e => hs₁.extBut _ _ (fun q => D.z1 (q ▸ hc)) e
  rcases hend with rfl | ⟨k1,rfl⟩
  · refine wpAny_bind (D1.done _ _ _ g1 fun h₂ e hs₂ he => ?_)
    obtain ⟨oe,hoe,hce⟩ := he
    have hz₂:xD h₂ z TI TO .ellipsis false := hs₂ _ _ D.i1z.symm hz₁
    have hez:e ≠ z := fun x => by subst x; rw [hz₂] at hoe; cases hoe; simp at hce
    refine wpAny_setField_rec hz₂ (by simp) fun h₃ _ hs₃ => hE h₃ e s.toks (fun c o c1 _ c3 _ x => hs₃.extBut _ _ c1 (hs₂ _ _ c3 (hs₁.extBut _ _ c1 x))) ⟨oe,hs₃.extBut _ _ hez hoe,hce⟩
  · refine wpAny_bind (D1.item k _ _ _ k1 g1 fun x h₂ tk hx h1₂ hs₂ => wpAny_pure ?_)
    replace hs₂:Heap.SameBut i1 h₁ h₂ := hs₂
    have hTO₂:IsPair h₂ TO a b := hs₂.extBut _ _ D.TOi1 (hs₁.extBut _ _ D.TOz hTO)
    refine wpAny_bind (wpAny_seqItems hTO₂ rfl ?_)
    refine wpAny_bind (wpAny_updateSeq_pair hTO₂ fun h₃ hTO₃ hs₃ => ?_)
    refine wpAny_bind (wpAny_letGo (wpAny_pure ?_))
    refine wpAny_bind (wpAny_bind (wpAny_onRaise ?_))
    show wpAny _ _ (Builtin.SmallTypes.nextOf (.ref i2) >>= _) _ _ _
    refine wpAny_bind (D2.done _ _ _ (D2.frame k _ _ h2 fun c hc o e => hs₃.extBut _ _ (fun q => D.o2 (q ▸ hc)) (hs₂.extBut _ _ (fun q => D.i1f (q ▸ hc)) (hs₁.extBut _ _ (fun q => D.z2 (q ▸ hc)) e))) fun h₄ e hs₄ he => ?_)
    obtain ⟨oe,hoe,hce⟩ := he
    have hz₄:xD h₄ z TI TO .ellipsis false := hs₄ _ _ D.i2z.symm (hs₃.extBut _ _ D.TOz.symm (hs₂.extBut _ _ D.i1z.symm hz₁))
    have hez:e ≠ z := fun x => by subst x; rw [hz₄] at hoe; cases hoe; simp at hce
    refine wpAny_setField_rec hz₄ (by simp) fun h₅ _ hs₅ => hE h₅ e tk (fun c o c1 c2 c3 c4 x => hs₅.extBut _ _ c1 (hs₄ _ _ c4 (hs₃.extBut _ _ c2 (hs₂.extBut _ _ c3 (hs₁.extBut _ _ c1 x))))) ⟨oe,hs₅.extBut _ _ hez hoe,hce⟩
theorem QE {k:Nat} {f1:Bool} {t:Addr} {o0:Obj} {Q:Fin → Shared → Prop} (D:ZlApart z TI TO i1 i2 fp1 fp2) (D1:Draws prog w A i1 fp1 n1 P1 St1) (D2:Draws prog w A i2 fp2 n2 P2 St2)
    (hz:xD s.heap z TI TO (rawInt (t:Nat)) f1) (ht:s.heap.get? t = some o0) (hTI:IsPair s.heap TI (.ref i1) (.ref i2)) (h1:St1 k s.heap) (h2:St2 k s.heap) (hend:k = n1 ∨ (k < n1 ∧ k = n2))
    (hE:∀ h' e tk,(∀ c o,c ≠ z → c ≠ TO → c ≠ i1 → c ≠ i2 → s.heap.get? c = some o → h'.get? c = some o) → (∃ o,h'.get? e = some o ∧ o.cls = .type "StopIteration") → E (.ref e) { s with heap := h',toks := tk }) :
    wpAny (model prog w) A (Builtin.«zip.__next__» ⟨[.ref z],[]⟩) Q E s := by
  show wpAny _ _ (field (.ref z) 2 >>= _) _ _ _
  refine wpAny_bind (wpAny_field hz rfl (x := .bool false) rfl ?_)
  show wpAny _ _ (field (.ref z) 3 >>= _) _ _ _
  refine wpAny_bind (wpAny_field hz rfl (x := .ref TI) rfl ?_)
  refine wpAny_bind (wpAny_seqItems hTI rfl ?_)
  show wpAny _ _ (Builtin.SmallTypes.ownedTupleIsFree (.ref z) >>= _) _ _ _
  refine wpAny_bind (ZZ hz ht fun h₁ hz₁ hk₁ hsz₁ => ?_)
  rw [if_neg (by decide)]
  refine wpAny_bind ?_
  rw [← Array.forIn_toList]
  simp only [List.forIn_cons,List.forIn_nil]
  refine wpAny_bind (wpAny_bind (wpAny_holding ?_))
  show wpAny _ _ (Builtin.SmallTypes.nextOf (.ref i1) >>= _) _ _ _
  have g1:St1 k h₁ := D1.frame k _ _ h1 fun c hc o e => hk₁ _ _ (fun q => D.z1 (q ▸ hc)) e
  rcases hend with rfl | ⟨k1,rfl⟩
  · refine wpAny_bind (D1.done _ _ _ g1 fun h₂ e hs₂ he => ?_)
    exact hE h₂ e s.toks (fun c o c1 _ c3 _ x => hs₂ _ _ c3 (hk₁ _ _ c1 x)) he
  · refine wpAny_bind (D1.item k _ _ _ k1 g1 fun x h₂ tk hx h1₂ hs₂ => wpAny_pure ?_)
    replace hs₂:Heap.SameBut i1 h₁ h₂ := hs₂
    refine wpAny_pure ?_
    refine wpAny_bind (wpAny_bind (wpAny_holding ?_))
    show wpAny _ _ (Builtin.SmallTypes.nextOf (.ref i2) >>= _) _ _ _
    refine wpAny_bind (D2.done _ _ _ (D2.frame k _ _ h2 fun c hc o e => hs₂.extBut _ _ (fun q => D.i1f (q ▸ hc)) (hk₁ _ _ (fun q => D.z2 (q ▸ hc)) e)) fun h₄ e hs₄ he => ?_)
    exact hE h₄ e tk (fun c o c1 _ c3 c4 x => hs₄ _ _ c4 (hs₂.extBut _ _ c3 (hk₁ _ _ c1 x))) he
theorem zcH {k:Nat} {Q:Option Value → Shared → Prop} (D:ZlApart z TI TO i1 i2 fp1 fp2) (D1:Draws prog w A.in1 i1 fp1 n1 P1 St1) (D2:Draws prog w A.in1 i2 fp2 n2 P2 St2) (hS:ZlS z TI TO i1 i2 St1 St2 k s.heap) (k1:k < n1) (k2:k < n2)
    (hQ:∀ x y h' tk,P1 k x → P2 k y → IsPair h' s.heap.objs.size x y → ZlS z TI TO i1 i2 St1 St2 (k + 1) h' → (∀ c o,c ≠ z → c ≠ TO → c ≠ i1 → c ≠ i2 → s.heap.get? c = some o → h'.get? c = some o) → Q (some (.ref s.heap.objs.size)) { s with heap := h',toks := tk }) :
    wpAny (model prog w) A (pyNext (.ref z)) Q E s := by
  obtain ⟨f0,f1,a,b,hz,hf,hTI,hTO,h1,h2⟩ := hS
  have hT:s.TypeIs (.ref z) "zip" := ⟨_,hz,rfl⟩
  unfold pyNext
  refine wpAny_bind (wpAny_attempt (wpAny_callSpecial?_slot (name := Str.ofString "__next__") hT F.slot_zip_next (wpAny_call_entry F.slot_zip_next hT F.entry_zip_next ?_ (F.args_zip_next_1 _))))
  rcases hf with ⟨rfl,rfl⟩ | ⟨t,o0,rfl,ht,tz,tO,t1,t2⟩
  · exact Vi D D1 D2 hz hTI hTO h1 h2 k1 k2 fun x y h' tk a1 a2 a3 a4 a5 => wpAny_pure (hQ x y h' tk a1 a2 a3 a4 a5)
  · exact V9 D D1 D2 hz ht tz tO t1 t2 hTI hTO h1 h2 k1 k2 fun x y h' tk a1 a2 a3 a4 a5 => wpAny_pure (hQ x y h' tk a1 a2 a3 a4 a5)
theorem zeq {k:Nat} {Q:Option Value → Shared → Prop} (D:ZlApart z TI TO i1 i2 fp1 fp2) (D1:Draws prog w A.in1 i1 fp1 n1 P1 St1) (D2:Draws prog w A.in1 i2 fp2 n2 P2 St2) (hS:ZlS z TI TO i1 i2 St1 St2 k s.heap) (hend:k = n1 ∨ (k < n1 ∧ k = n2))
    (hQ:∀ h' tk,(∀ c o,c ≠ z → c ≠ TO → c ≠ i1 → c ≠ i2 → s.heap.get? c = some o → h'.get? c = some o) → Q none { s with heap := h',toks := tk }) :
    wpAny (model prog w) A (pyNext (.ref z)) Q E s := by
  obtain ⟨f0,f1,a,b,hz,hf,hTI,hTO,h1,h2⟩ := hS
  have hT:s.TypeIs (.ref z) "zip" := ⟨_,hz,rfl⟩
  have fin:∀ h' e tk,(∀ c o,c ≠ z → c ≠ TO → c ≠ i1 → c ≠ i2 → s.heap.get? c = some o → h'.get? c = some o) → (∃ o,h'.get? e = some o ∧ o.cls = .type "StopIteration") → wpAny (model prog w) A (do
      if (← isInstance (.ref e) (.type "StopIteration")) = true then pure none else throw (.ref e)) Q E { s with heap := h',toks := tk } := by
    intro h' e tk hk ⟨o,ho,hc⟩
    refine wpAny_bind (wpAny_isInstance (T := "StopIteration") (b := true) ⟨o,ho,hc⟩ isSubtype_stop ?_)
    exact wpAny_pure (hQ _ _ hk)
  unfold pyNext
  refine wpAny_bind (wpAny_attempt (wpAny_callSpecial?_slot (name := Str.ofString "__next__") hT F.slot_zip_next (wpAny_call_entry F.slot_zip_next hT F.entry_zip_next ?_ (F.args_zip_next_1 _))))
  rcases hf with ⟨rfl,rfl⟩ | ⟨t,o0,rfl,ht,tz,tO,t1,t2⟩
  · exact Ua D D1 D2 hz hTI hTO h1 h2 hend fin
  · exact QE D D1 D2 hz ht hTI h1 h2 hend fin
end
section
variable {prog:Program} {w:World} {A:Around} {E:Value → Shared → Prop} {s:Shared}
end
end PySem
namespace L2
open PySem PySem.Spec PyProof.Rows
section
variable {X:Cx}
theorem kj:∀ {zs:List Str} {us:List Value},Vals (zs.map V.str) us → StrsAre us zs
  | [],_,.nil => .nil
  | z :: zs,_,.cons r t => by
    obtain ⟨k,rfl⟩ := r
    exact .cons z k (kj t)
noncomputable def QF (K:PySem.W.Frag):V → List V → Hp → VK → Prop := fun x xs H Q => ∃ sep a zs,x = .str sep ∧ xs = [.ref a] ∧ SqL K H a (zs.map .str) ∧ sep.length ≤ 16 ∧ (zs.map (·.length)).sum + zs.length ≤ 1048576 ∧ Q (.str (Txt.join sep zs)) H
theorem zcI:MtR X "str.join" (QF X.K) := by
  intro pins s σ H x xs v us Q I rx r h
  obtain ⟨sep,a,zs,rfl,rfl,hq,hs,hw,q⟩ := h
  obtain ⟨u,rfl,ru⟩ := r.one
  cases ru
  obtain ⟨t,rfl⟩ := rx
  obtain ⟨its,rv,p,hz⟩ := I.list hq
  exact join_listW p.isList (kj rv) hs hw fun t' k => ⟨.str _,H,I.tok _,⟨_,rfl⟩,q⟩
end
end L2
namespace L2
open PySem PySem.Spec PyProof.Rows
section
variable {X:Cx} {K:PySem.W.Frag}
noncomputable def zer (K:PySem.W.Frag) (ta tb:TE):TE := fun σ H Q => ta σ H fun x H1 => ∃ k,Yk K x H1 k ∧ if k = true then Q x H1 else tb σ H1 Q
theorem zes {a b:Expr} {xN:List Expr} {pos:Pos} {ta tb:TE} (hK:X.K = K) (ha:PE X a ta) (hb:PE X (.BoolOp .Or (b :: xN) pos) tb):PE X (.BoolOp .Or (a :: b :: xN) pos) (zer K ta tb) := by
  subst hK
  intro pins s σ H Q I h
  refine BoolOp_or (thn (ha pins s σ H _ I h) fun v s1 ⟨x,H1,I1,r1,q1⟩ => ?_)
  obtain ⟨k,tk,q1⟩ := q1
  refine thn (Ji pins s1 σ H1 x v (fun c H2 => if c = true then Q x H2 else tb σ H2 Q) I1 r1 ⟨k,tk,q1⟩) fun c s2 ⟨H2,I2,q2⟩ => ?_
  cases c with
  | true => exact ⟨x,H2,I2,r1,q2⟩
  | false => exact hb pins s2 σ H2 Q I2 q2
theorem UL (h:X.K = K):MtR X "str.join" (QF K) := by subst h; exact zcI
noncomputable def zet (Ta Tb:TEW):TEW := fun ρ O R => Ta ρ O fun x O1 => ∃ b,X1 O1 x = some b ∧ ZL x ∧ if b = true then R x O1 else Tb ρ O1 R
theorem zcJ {ta tb:TE} {Ta Tb:TEW} (ha:RefE K ta Ta) (hb:RefE K tb Tb):RefE K (zer K ta tb) (zet Ta Tb) := by
  intro Γ O H ρ σ S r0 Q R hT k
  refine ha Γ O H ρ σ S r0 _ _ hT fun Γ1 O1 H1 x v l1 S1 rx h1 => ?_
  obtain ⟨c,e,hs,h1⟩ := h1
  refine ⟨c,X2 S1 rx e hs,?_⟩
  cases c with
  | true => rw [if_pos rfl] at h1 ⊢; exact k _ _ _ _ _ l1 S1 rx h1
  | false => rw [if_neg (by decide)] at h1 ⊢; exact hb _ _ _ _ _ S1 (r0.mono l1) _ _ h1 fun Γ2 O2 H2 y u l2 S2 ry h2 => k _ _ _ _ _ (l1.trans l2) S2 ry h2
noncomputable def vO (z:Str):W := .d (.str z)
theorem YZ {Γ:Gh}:∀ {zs:List Str} {vs:List V},relWs K Γ (zs.map vO) vs → vs = zs.map V.str
  | [],_,.nil => rfl
  | z :: zs,_,.cons r t => by rw [YZ t,show _ = V.str z from r]; rfl
noncomputable def zbB:W → List W → OM → WK → Prop := fun x xs O R => ∃ sep w,∃ zs:List Str,x = .d (.str sep) ∧ xs = [w] ∧ yd O w = some (zs.map vO) ∧ sep.length ≤ 16 ∧ (zs.map (·.length)).sum + zs.length ≤ 1048576 ∧ R (.d (.str (Txt.join sep zs))) O
theorem zeu {T:String}:RefM K T (QF K) zbB := by
  rintro Γ O H x v xs vs S rx rs Q R ⟨sep,w,zs,rfl,rfl,e,h1,h2,h⟩ k
  cases rs with
  | cons rw t =>
    cases t
    obtain ⟨a,us,rfl,q1,q2⟩ := xo S rw e
    rw [YZ q2] at q1
    exact ⟨sep,a,zs,rx,rfl,q1,h1,h2,k _ _ _ _ _ (Le.refl _) S uO h⟩
end
end L2
namespace L2
open PySem PySem.Spec PyProof.Rows
section
variable {X:Cx} {K:PySem.W.Frag}
end
end L2
namespace L2
open PySem PySem.Spec PyProof.Rows
section
variable {K:PySem.W.Frag}
end
end L2
namespace L2
open PySem PySem.Spec PyProof.Rows
section
variable {K:PySem.W.Frag}
noncomputable def Vj (Ta:TEW):TEW := fun ρ O R => Ta ρ O fun x O1 => ∃ a ws,x = .own a ∧ O1 a = some (.lst ws) ∧ R (.d (.bool true)) O1
theorem zcK {ta:TE} {Ta:TEW} (h:RefE K ta Ta):RefE K (tCB (Qs K) (uJ ta (uJ (tC (.ty "list")) j4))) (Vj Ta) := by
  intro Γ O H ρ σ S r Q R hT k
  refine h _ _ _ _ _ S r _ _ hT fun Γ1 O1 H1 x v l1 S1 rx h1 => ?_
  obtain ⟨a,ws,rfl,ho,h1⟩ := h1
  cases (show v = .ref a from rx)
  obtain ⟨_,vs,q1,_⟩ := S1.o _ _ ho
  exact ⟨_,_,_,true,rfl,.lst q1,rfl,k _ _ _ _ _ l1 S1 vP h1⟩
end
end L2
namespace L2
open PySem PySem.Spec PyProof.Rows
noncomputable abbrev Rw6 := List Cel
noncomputable def zf8 (c:Cel):Prop := ∃ k,32 ≤ k ∧ k ≤ 126 ∧ c.1 = ⟨#[k]⟩
noncomputable def okR (r:Rw6):Prop := ∀ c ∈ r,zf8 c
end L2
namespace L2
open PySem PySem.Spec PyProof.Rows
end L2
namespace L2
open PySem PySem.Spec PyProof.Rows
noncomputable abbrev T3 := Nat × Nat × Int
noncomputable def Cov (f:Nat → Int):Nat → List T3 → Nat → Prop
  | a,[],b => a = b
  | a,t :: l,b => t.1 = a ∧ t.1 < t.2.1 ∧ (∀ j,t.1 ≤ j → j < t.2.1 → f j = t.2.2) ∧ Cov f t.2.1 l b
theorem Cov.le {f:Nat → Int}:∀ {l:List T3} {a b:Nat},Cov f a l b → a + l.length ≤ b
  | [],a,b,h => by cases h; exact Nat.le_refl _
  | t :: l,a,b,⟨h1,h2,h3,h4⟩ => by have := h4.le; simp only [List.length_cons]; omega
theorem Cov.mem {f:Nat → Int}:∀ {l:List T3} {a b:Nat},Cov f a l b → ∀ t ∈ l,a ≤ t.1 ∧ t.1 < t.2.1 ∧ t.2.1 ≤ b ∧ ∀ j,t.1 ≤ j → j < t.2.1 → f j = t.2.2
  | t :: l,a,b,⟨h1,h2,h3,h4⟩,u,hu => by
    have := h4.le
    rcases List.mem_cons.mp hu with rfl | hu
    · exact ⟨by omega,h2,by omega,h3⟩
    · obtain ⟨q1,q2,q3,q4⟩ := h4.mem u hu
      exact ⟨by omega,q2,q3,q4⟩
end L2
namespace L2
open PySem PySem.Spec PyProof.Rows
structure OwnAt (O:OM) (d q:Addr) (S:ST):Prop where
  d:O d = some (.dK (ownW q S))
  q:O q = some (.grid (genG S.h S.w S.pic))
noncomputable def PicOk (S:ST):Prop := ∀ i j,i < S.h → j < S.w → okC (S.pic i j)
noncomputable def InWin (S:ST):Prop := S.home = true → S.top ≤ S.row ∧ S.row ≤ S.bottom ∧ S.left ≤ S.col ∧ S.col ≤ S.right
section
variable {O O':OM} {d q:Addr} {S:ST}
theorem OwnAt.dq (s:OwnAt O d q S):d ≠ q := neW s.d s.q (by intro h; cases h)
theorem OwnAt.fld (s:OwnAt O d q S) {S':ST} (hw:S'.w = S.w) (hh:S'.h = S.h) (hp:S'.pic = S.pic):OwnAt (updO O d (.dK (ownW q S'))) d q S' :=
  ⟨ze,by rw [zf (Ne.symm s.dq),hw,hh,hp]; exact s.q⟩
theorem OwnAt.pic (s:OwnAt O d q S) {f:PF}:OwnAt (updO O q (.grid (genG S.h S.w f))) d q { S with pic := f } :=
  ⟨by rw [zf s.dq]; exact s.d,ze⟩
theorem OwnAt.keep (s:OwnAt O d q S) {y z:Addr} (b:But O O' y z) (h1:d ≠ y) (h2:d ≠ z) (h3:q ≠ y) (h4:q ≠ z):OwnAt O' d q S :=
  ⟨by rw [b _ h1 h2]; exact s.d,by rw [b _ h3 h4]; exact s.q⟩
end
structure Both (O:OM) (C x dx p st kp d q:Addr) (S S':ST):Prop where
  s:StAt O C x dx p st kp S
  o:OwnAt O d q S'
  ds:d ≠ st
  pq:p ≠ q
section
variable {O O':OM} {C x dx p st kp d q:Addr} {S S' S1:ST}
theorem Both.dx' (b:Both O C x dx p st kp d q S S'):d ≠ x := neW b.o.d b.s.x (by intro h; cases h)
theorem Both.dp (b:Both O C x dx p st kp d q S S'):d ≠ p := neW b.o.d b.s.p (by intro h; cases h)
theorem Both.dk (b:Both O C x dx p st kp d q S S'):d ≠ kp := neW b.o.d b.s.kp (by intro h; cases h)
theorem Both.qx (b:Both O C x dx p st kp d q S S'):q ≠ x := neW b.o.q b.s.x (by intro h; cases h)
theorem Both.qs (b:Both O C x dx p st kp d q S S'):q ≠ st := neW b.o.q b.s.st (by intro h; cases h)
theorem Both.qk (b:Both O C x dx p st kp d q S S'):q ≠ kp := neW b.o.q b.s.kp (by intro h; cases h)
theorem Both.st' (b:Both O C x dx p st kp d q S S') (h:StAt O' C x dx p st kp S1) (k:But O O' x p):Both O' C x dx p st kp d q S1 S' :=
  ⟨h,b.o.keep k b.dx' b.dp b.qx (Ne.symm b.pq),b.ds,b.pq⟩
end
noncomputable def zfn (S:ST):Prop := PicOk S ∧ SeqAt.shaped S.last = true ∧ PyData.eqv S.last S.last = true
structure Drawn (S:ST):Prop where
  b:Bds S
  ok:PicOk S
  win:InWin S
  last:S.last = .none ∨ ∃ c,S.last = .str c ∧ S.pic S.row.toNat S.col.toNat = (c,S.ink)
  late:S.late = true → S.col = eR S ∧ S.last ≠ .none
theorem zev {c:Str} (h:PyData.strOk c = true):SeqAt.shaped (.str c) = true ∧ PyData.eqv (.str c) (.str c) = true :=
  ⟨by simp [SeqAt.shaped,PyData.canLay0,PyData.depth,h],by simp [PyData.eqv]⟩
theorem Drawn.all {S:ST} (h:Drawn S):zfn S := by
  refine ⟨h.ok,?_⟩
  rcases h.last with e | ⟨c,e,e2⟩
  · rw [e]; exact ⟨rfl,rfl⟩
  · have h0 := h.ok S.row.toNat S.col.toNat (by have := h.b.r0; have := h.b.r1; omega) (by have := h.b.c0; have := h.b.c1; omega)
    rw [e2] at h0
    rw [e]
    exact zev h0
end L2
namespace L2
end L2
namespace L2
open PySem PySem.Spec PyProof.Rows
noncomputable def Old (O O':OM):Prop := ∀ b,O b ≠ none → O' b = O b
theorem Old.refl {O:OM}:Old O O := fun _ _ => rfl
theorem Old.upd {O O':OM} {a:Addr} {o:OO} (h:Old O O') (ha:O a = none):Old O (updO O' a o) := fun b hb => by
  rw [zf (fun e => by rw [e] at hb; exact hb ha)]; exact h b hb
theorem Old.new {O O':OM} {a:Addr} (h:Old O O') (ha:O' a = none):O a = none := by
  cases e:O a with
  | none => rfl
  | some o => rw [h a (by rw [e]; simp)] at ha; rw [ha] at e; cases e
section
variable {q:Addr} {S:ST} {a b:Int} {u:Bool} {l:PyData}
end
end L2
namespace L2
open PySem PySem.Spec PyProof.Rows
theorem PicOk.set {S:ST} {i j:Nat} {c:Str} {k:Int} (h:PicOk S) (hc:PyData.strOk c = true):PicOk { S with pic := setF S.pic i j (c,k) } := by
  intro x y hx hy
  show okC (setF S.pic i j (c,k) x y)
  unfold setF
  split
  · exact hc
  · exact h x y hx hy
end L2
namespace L2
open PySem PySem.Spec PyProof.Rows
end L2
namespace L2
open PySem PySem.Spec PyProof.Rows
noncomputable def sLaw:SpW := fun ws O R => ∃ ns:List Int,ws = [.d (.list (ns.map .int))] ∧ (∀ n ∈ ns,Bt 1048580 n) ∧ ns.length ≤ 63 ∧ ∀ O',R (.d (.bool true)) O'
end L2
namespace L2
open PySem PySem.Spec PyProof.Rows
theorem jd {a b:Str}:(a ++ b).cps.toList = a.cps.toList ++ b.cps.toList := by
  show (a.cps ++ b.cps).toList = _
  simp
noncomputable def okB (z:Str):Prop := z.length ≤ 200 ∧ ∀ c ∈ z.cps.toList,c = 59 ∨ (48 ≤ c ∧ c ≤ 57)
theorem UM (z:Str):z.length = z.cps.toList.length := rfl
theorem UN (sep:Str) (zs:List Str):Txt.join sep zs = Str.join sep zs := eq_of_beq (join_plain_closes sep zs)
end L2
namespace L2
open PySem PySem.Spec PyProof.Rows
theorem Old.del {O O':OM} {a:Addr} (h:Old O O') (ha:O a = none):Old O (L2.del O' a) := fun b hb => by
  rw [x8 (O := O') (fun e => hb (by rw [e]; exact ha))]
  exact h b hb
noncomputable def sp2 (t:T3):PyData := .tuple [.int t.1,.int t.2.1]
theorem Ub {ds:List PyData} (h1:PyData.canLayAll0 ds = true) (h2:PyData.depthAll ds ≤ 60):SeqAt.shaped (.list ds) = true := by
  have h3:PyData.depth (.list ds) ≤ 64 := by simp only [PyData.depth]; omega
  have h4:PyData.canLay0 (.list ds) = true := by simp only [PyData.canLay0]; exact h1
  unfold SeqAt.shaped
  rw [h4,decide_eq_true h3]
  rfl
theorem Z0 {α:Type} {g:α → PyData} {l:List α} (h:∀ a ∈ l,PyData.canLay0 (g a) = true ∧ PyData.depth (g a) ≤ 50):PyData.canLayAll0 (l.map g) = true ∧ PyData.depthAll (l.map g) ≤ 50 := by
  induction l with
  | nil => exact ⟨rfl,Nat.zero_le _⟩
  | cons a l ih =>
    obtain ⟨h1,h2⟩ := ih fun x hx => h x (List.mem_cons_of_mem _ hx)
    obtain ⟨q1,q2⟩ := h a List.mem_cons_self
    refine ⟨?_,?_⟩
    · simp only [List.map_cons,PyData.canLayAll0,q1,h1,Bool.and_self]
    · simp only [List.map_cons,PyData.depthAll]
      omega
theorem QG {α:Type} {g:α → PyData} {l:List α} (h:∀ a ∈ l,PyData.canLay0 (g a) = true ∧ PyData.depth (g a) ≤ 50):SeqAt.shaped (.list (l.map g)) = true := by
  obtain ⟨h1,h2⟩ := Z0 h
  exact Ub h1 (by omega)
theorem QH {α:Type} {g:α → PyData} {l:List α} (h:∀ a ∈ l,PyData.eqv (g a) (g a) = true):PyData.eqvAll (l.map g) (l.map g) = true := by
  induction l with
  | nil => rfl
  | cons a l ih => simp only [List.map_cons,PyData.eqvAll,h a List.mem_cons_self,Bool.true_and]; exact ih fun x hx => h x (List.mem_cons_of_mem _ hx)
end L2
namespace L2
open PySem PySem.Spec PyProof.Rows
end L2
namespace L2
open PySem PySem.Spec PyProof.Rows
end L2
namespace L2
open PySem PySem.Spec PyProof.Rows
section
variable {X:Cx} {K:PySem.W.Frag}
end
end L2
namespace L2
open PySem PySem.Spec PyProof.Rows
end L2
namespace L2
open PySem PySem.Spec PyProof.Rows
section
variable {X:Cx} {K:PySem.W.Frag}
end
end L2
namespace L2
open PySem PySem.Spec PyProof.Rows
section
variable {X:Cx} {k:Nat} {sp:Sp} {C:Addr} {x:Str} {p pos:Pos}
end
theorem UO {a b:Str} (h:a.cps.toList = b.cps.toList):a = b := by
  obtain ⟨a⟩ := a
  obtain ⟨b⟩ := b
  exact congrArg Str.mk (Array.ext' h)
noncomputable abbrev sgS (c:Nat):Str := ⟨#[c]⟩
noncomputable abbrev sgW (c:Nat):W := .d (.str (sgS c))
noncomputable def zbC (c:Nat):Prop := (97 ≤ c ∧ c ≤ 122) ∨ (65 ≤ c ∧ c ≤ 90)
noncomputable def zbD (c:Nat):Prop := 48 ≤ c ∧ c ≤ 57
instance (c:Nat):Decidable (zbC c) := by unfold zbC; infer_instance
instance (c:Nat):Decidable (zbD c) := by unfold zbD; infer_instance
noncomputable def okI (d:PyData):Prop := PyData.canLay0 d = true ∧ PyData.depth d ≤ 50 ∧ PyData.eqv d d = true
theorem zaz {ds:List PyData} (h:∀ d ∈ ds,okI d):PyData.canLay0 (.list ds) = true ∧ PyData.depth (.list ds) ≤ 51 ∧ PyData.eqv (.list ds) (.list ds) = true := by
  obtain ⟨h1,h2⟩ := Z0 (g := fun d => d) (l := ds) fun d hd => ⟨(h d hd).1,(h d hd).2.1⟩
  have h3 := QH (g := fun d => d) (l := ds) fun d hd => (h d hd).2.2
  rw [List.map_id'] at h1 h2 h3
  exact ⟨by simp only [PyData.canLay0]; exact h1,by simp only [PyData.depth]; omega,by simp only [PyData.eqv]; exact h3⟩
structure RdAt (C:Addr) (O:OM) (x dx p:Addr) (b:List Nat):Prop where
  x:O x = some (.ins C dx [(Str.ofString "begun",.own p)])
  p:O p = some (.lst (b.map sgW))
theorem RdAt.ne {C:Addr} {O:OM} {x dx p:Addr} {b:List Nat} (h:RdAt C O x dx p b):x ≠ p := fun e => by
  have := h.x; rw [e,h.p] at this; cases this
end L2
namespace L2
open PySem PySem.Spec PyProof.Rows
section
variable {K:PySem.W.Frag}
theorem Sim.shrink {Γ:Gh} {O O':OM} {H:Hp} (S:Sim K Γ O' H) (h:Old O O'):Sim K Γ O H := by
  have k1:∀ {x:Addr} {o:OO},O x = some o → O' x = some o := fun {x o} e => by rw [h x (by rw [e]; simp)]; exact e
  have k0:∀ {x:Addr},O' x = none → O x = none := fun {x} e => by
    cases q:O x with
    | none => rfl
    | some o => rw [k1 q] at e; cases e
  refine ⟨S.z,fun x o e => ?_,S.gd,S.f,fun x o e hn => S.gn x o (k1 e) hn,S.fg,fun x o e => ⟨(S.fd x o e).1,k0 (S.fd x o e).2.1,fun b rows rs e1 => (S.fd x o e).2.2 b rows rs (k1 e1)⟩,fun x b ra rb rs ss r e1 e2 => S.u x b ra rb rs ss r (k1 e1) (k1 e2)⟩
  obtain ⟨h1,h2⟩ := S.o _ _ (k1 e)
  refine ⟨h1,h2.keep (Le.refl _) rfl rfl fun rs r hg ⟨rows,hrw⟩ hr => ?_⟩
  subst hrw
  obtain ⟨_,q2,_⟩ := S.rowIn (k1 e) hg hr
  refine ⟨rfl,rfl,?_⟩
  rw [q2]
  exact k0 q2
theorem FnOk.forget {P:Program} {w:World} {mg:Str → Option Value} {base:Heap} {CX:CXT} {k:Nat} {f:Addr} {fd:FuncData} {ps:List Str} {s s':SpW} (F:FnOk P w K mg base CX k f fd ps (zb K s'))
    (h:∀ ws O R,s ws O R → s' ws O fun w O' => Old O O' ∧ R w O):FnOk P w K mg base CX k f fd ps (zb K s) :=
  F.imp fun vs H Q E ⟨Γ,O,ws,R,S,r,hs,k⟩ => ⟨Γ,O,ws,_,S,r,h ws O R hs,fun Γ' O' H' w v l S' rw ⟨ho,hR⟩ => k Γ' O H' w v l (S'.shrink ho) rw hR⟩
noncomputable def zew (wi:TI) (n:Nat) (js:List Nat) (g:TG) (tt:TT) (te:TE):TE := tLc wi n js g tt te
section
variable {X:Cx} {N:List Str} {n:Nat} {js:List Nat} {scope:Scope} {cl:List (Str × Addr)} {elt tg iter:Expr} {ifs:List Expr} {pos:Pos} {wi:TI} {g:TG} {tt:TT} {te:TE}
theorem zex (L:LcOk X N n js scope cl) (hc:X.calm = true) (hi:PI X tg iter wi)
    (hg:∀ C s0 H0 fp0,PG (xh X N scope cl C s0 H0 fp0) tg g) (ht:∀ C s0 H0 fp0,PTs (xh X N scope cl C s0 H0 fp0) ifs tt) (he:∀ C s0 H0 fp0,PE (xh X N scope cl C s0 H0 fp0) elt te)
    (hs:∀ x,foldedSetIterable iter X.env x = pure x := by intro _; rfl):PE X (.ListComp elt [⟨tg,iter,ifs,0⟩] scope pos) (zew wi n js g tt te) := kO L hc hi hg ht he hs
end
noncomputable def zey (Wi:TIW) (n:Nat) (js:List Nat) (G:TGW) (T:TTW) (E:TEW):TEW := fun ρ O R => Wi ρ O fun ws keep O1 => keep O1 ∧ ws.length ≤ 1000000 ∧ ∃ Pd:PyData → Prop,
  (∀ w ∈ ws,∀ us:WS,us.length = n → ZP G T E n (xa js ρ) w (us ++ xa js ρ) O1 fun y O2 => O2 = O1 ∧ ∃ d,y = some (.d d) ∧ Pd d) ∧ ∀ ds:List PyData,ds.length = ws.length → (∀ d ∈ ds,Pd d) → R (.d (.list ds)) O1
theorem zcL {wi:TI} {Wi:TIW} {n:Nat} {js:List Nat} {g:TG} {G:TGW} {tt:TT} {T:TTW} {te:TE} {E:TEW} (hi:uz K wi Wi) (hg:RefG K g G) (ht:x4 K tt T) (he:RefE K te E):RefE K (zew wi n js g tt te) (zey Wi n js G T E) := by
  intro Γ O H ρ σ S r Q R hT k
  refine hi _ _ _ _ _ S r _ _ hT fun Γ1 O1 H1 J ws keep l1 S1 ok h1 => ?_
  obtain ⟨hk,hlen,Pd,hF,hR⟩ := h1
  intro D hD
  have hFD:Γ1.F D = none := S1.f.free hD
  have r1 := qp (r.mono l1) n js
  refine ⟨fun i m σ' H' => i ≤ ws.length ∧ m = ws.length - i ∧ ∃ Γ' ρ' vs,Same Γ1.Z Γ'.Z ∧ (∀ a rs,Γ1.G a = some rs → ∃ more,Γ'.G a = some (rs ++ more)) ∧ Γ'.F = upd Γ1.F D (.lst vs) ∧ Sim K Γ' O1 H' ∧ relR K Γ' ρ' σ' ∧
    ρ'.length = n + (xa js ρ).length ∧ ρ'.drop n = xa js ρ ∧ ∃ ds,ds.length = i ∧ (∀ d ∈ ds,Pd d) ∧ Reps K Γ'.Z ds vs,⟨_,Nat.zero_le _,rfl,_,_,[],Same.refl _,fun a rs h => ⟨[],by rw [List.append_nil]; exact h⟩,rfl,S1.frameNew hD (.lst []),r1.setF,by simp,by simp,[],rfl,fun d h => (by cases h),rfl⟩,?_⟩
  rintro i m σ' H' ⟨hi,rfl,Γ',ρ',vs,z',g',f',S',r',n1,n2,ds,hdl,hdp,rp⟩
  obtain ⟨ok1,ok2⟩ := ok i Γ' O1 H' z' g' S' hk
  have hvl:vs.length ≤ i := by
    rw [← Reps.length rp]
    omega
  by_cases hlt:i < ws.length
  · obtain ⟨go,y⟩ := ok1 _ (List.getElem?_eq_getElem hlt)
    refine .inr ⟨go,fun σ2 H2 => ∃ Γ2 ρ2 vs2,Same Γ1.Z Γ2.Z ∧ (∀ a rs,Γ1.G a = some rs → ∃ more,Γ2.G a = some (rs ++ more)) ∧ Γ2.F = upd Γ1.F D (.lst vs2) ∧ Sim K Γ2 O1 H2 ∧ relR K Γ2 ρ2 σ2 ∧
      ρ2.length = n + (xa js ρ).length ∧ ρ2.drop n = xa js ρ ∧ ∃ ds,ds.length = i + 1 ∧ (∀ d ∈ ds,Pd d) ∧ Reps K Γ2.Z ds vs2,fun σ2 H2 h => ⟨ws.length - (i + 1),by omega,hlt,rfl,h⟩,fun x H2 hy => ?_⟩
    obtain ⟨Γ2,l2,S2,rx⟩ := y x H2 hy
    obtain ⟨us,hus,rfl⟩ := ju n1 n2
    have et:ws.take (i + 1) = ws.take i ++ [ws[i]] := (List.take_append_getElem hlt).symm
    refine hg _ _ _ _ _ _ _ S2 (r'.mono l2) rx _ _ (hF _ (List.getElem_mem hlt) us hus) fun Γ3 O3 H3 ρ3 σ3 l3 S3 r3 h3 => ?_
    obtain ⟨⟨m1,m2⟩,h3⟩ := h3
    refine ht _ _ _ _ _ S3 r3 _ _ h3 fun Γ4 O4 H4 b l4 S4 h4 => ?_
    have l24 := (l2.trans l3).trans l4
    have up:∀ Γ5,Le Γ' Γ5 → Same Γ1.Z Γ5.Z ∧ (∀ a rs,Γ1.G a = some rs → ∃ more,Γ5.G a = some (rs ++ more)) := fun Γ5 l => ⟨z'.trans l.z,fun a rs h => by
      obtain ⟨m,e⟩ := g' a rs h
      obtain ⟨m2,e2⟩ := l.g a _ e
      exact ⟨m ++ m2,by rw [← List.append_assoc]; exact e2⟩⟩
    cases b with
    | true =>
      rw [if_pos rfl] at h4 ⊢
      refine he _ _ _ _ _ S4 (r3.mono l4) _ _ h4 fun Γ5 O5 H5 w5 v5 l5 S5 r5 h5 => ?_
      obtain ⟨rfl,h5⟩ := h5
      have l25 := l24.trans l5
      obtain ⟨d,hy5,hd⟩ := h5
      cases hy5
      have f5:Γ5.F = upd Γ1.F D (.lst vs) := by rw [l25.f,f']
      have fD:Γ5.F D = some (.lst vs) := by rw [f5,zn]
      refine ⟨vs,S5.f _ _ fD,(by rw [sizeLine_eq]; omega),?_⟩
      obtain ⟨u1,u2⟩ := up Γ5 l25
      refine ⟨⟨Γ5.Z,Γ5.G,upd Γ5.F D (.lst (vs ++ [v5]))⟩,ρ3,vs ++ [v5],u1,u2,?_,S5.framePut fD _,((r3.mono l4).mono l5).setF,m1,m2,ds ++ [d],?_,?_,?_⟩
      · show upd Γ5.F D _ = _
        rw [f5,Yg]
      · simp [hdl]
      · intro e he
        rcases List.mem_append.mp he with he | he
        · exact hdp e he
        · cases List.mem_singleton.mp he; exact hd
      · exact Reps.snoc (Reps.same l25.z _ _ rp) r5
    | false =>
      rw [if_neg (by decide)] at h4
      obtain ⟨_,d,h4,_⟩ := h4
      cases h4
  · have hi2:i = ws.length := by omega
    subst hi2
    refine .inl ⟨ok2 rfl,?_⟩
    obtain ⟨q1,q2,q3⟩ := S'.unframe f' hFD rp
    exact k ⟨upd Γ'.Z D (.lst vs),Γ'.G,Γ1.F⟩ _ _ _ _ (l1.trans ⟨rfl,z'.trans q1,g'⟩) q2 q3 (hR ds hdl hdp)
end
end L2
namespace L2
open PySem PySem.Spec PyProof.Rows
end L2
namespace L2
open PySem PySem.Spec PyProof.Rows
end L2
namespace L2
open PySem PySem.Spec PyProof.Rows
theorem RdAt.old {C:Addr} {O O':OM} {x dx p:Addr} {b:List Nat} (r:RdAt C O x dx p b) (h:Old O O'):RdAt C O' x dx p b := ⟨by rw [h x (by rw [r.x]; simp)]; exact r.x,by rw [h p (by rw [r.p]; simp)]; exact r.p⟩
end L2
namespace L2
open PySem PySem.Spec PyProof.Rows
end L2
namespace L2
open PySem PySem.Spec PyProof.Rows
section
variable {X:Cx} {K:PySem.W.Frag}
noncomputable def frz (w:W) (O:OM):Option (PyData × OM) := match w with
  | .d x => some (x,O)
  | .own a => match O a with
    | some (.lst ws) => (xF ws).map fun ds => (.list ds,del O a)
    | _ => none
  | _ => none
noncomputable def frzs:List W → OM → Option (List PyData × OM)
  | [],O => some ([],O)
  | w :: ws,O => match frz w O with
    | some (d,O1) => (frzs ws O1).map fun q => (d :: q.1,q.2)
    | none => none
theorem zcM {Γ:Gh} {O O1:OM} {H:Hp} {w:W} {v:V} {d:PyData} (S:Sim K Γ O H) (r:relW K Γ w v) (e:frz w O = some (d,O1)):∃ Γ',Le Γ Γ' ∧ Sim K Γ' O1 H ∧ relW K Γ' (.d d) v := by
  cases w with
  | d x => cases e; exact ⟨Γ,Le.refl _,S,r⟩
  | row _ _ => cases e
  | own a =>
    simp only [frz] at e
    split at e
    · rename_i ws ho
      cases hd:xF ws with
      | none => rw [hd] at e; cases e
      | some ds =>
        rw [hd] at e
        cases e
        rw [xP hd] at ho
        obtain ⟨Γ',l,S',r'⟩ := S.freeze ho
        cases (show v = .ref a from r)
        exact ⟨Γ',l,S',r'⟩
    · cases e
theorem Vk:∀ {ws:List W} {vs:List V} {Γ:Gh} {O O1:OM} {H:Hp} {ds:List PyData},Sim K Γ O H → relWs K Γ ws vs → frzs ws O = some (ds,O1) → ∃ Γ',Le Γ Γ' ∧ Sim K Γ' O1 H ∧ Reps K Γ'.Z ds vs
  | [],_,Γ,O,O1,H,ds,S,r,e => by
    cases r
    cases e
    exact ⟨Γ,Le.refl _,S,rfl⟩
  | w :: ws,_,Γ,O,O1,H,ds,S,r,e => by
    cases r with
    | cons rx t =>
      simp only [frzs] at e
      split at e
      · rename_i d O2 e1
        obtain ⟨Γ1,l1,S1,r1⟩ := zcM S rx e1
        cases e2:frzs ws O2 with
        | none => rw [e2] at e; cases e
        | some q =>
          rw [e2] at e
          cases e
          obtain ⟨Γ2,l2,S2,r2⟩ := Vk S1 (Paired.mapP t fun _ _ z => z.mono l1) e2
          exact ⟨Γ2,l1.trans l2,S2,_,_,rfl,Rep.same l2.z _ _ r1,r2⟩
      · cases e
noncomputable def zbE (t:TA):TE := U9 t
theorem zcN {es:List Expr} {t:TA} {pos:Pos} {k:Nat} (h:QA X es t):PE X (.Tuple es k pos) (zbE t) := Jm h.pa
noncomputable def zbF (T:TAW):TEW := fun ρ O R => T ρ O fun ws O1 => ∃ ds O2,frzs ws O1 = some (ds,O2) ∧ ds.length ≤ 1000 ∧ R (.d (.tuple ds)) O2
theorem zaA {t:TA} {T:TAW} (h:xM K t T):RefE K (zbE t) (zbF T) := by
  intro Γ O H ρ σ S r0 Q R hT k
  refine h Γ O H ρ σ S r0 _ _ hT fun Γ1 O1 H1 ws vs l1 S1 rs h1 => ?_
  obtain ⟨ds,O2,e,hl,h1⟩ := h1
  obtain ⟨Γ2,l2,S2,r2⟩ := Vk S1 rs e
  refine ⟨by rw [← Reps.length r2]; exact qX hl,fun p hp => ?_⟩
  obtain ⟨Γ',l,S',r'⟩ := ka S2 r2 hp
  exact k _ _ _ _ _ ((l1.trans l2).trans l) S' r' h1
end
end L2
namespace L2
open PySem PySem.Spec PyProof.Rows
end L2
namespace L2
open PySem PySem.Spec PyProof.Rows
end L2
namespace L2
open PySem PySem.Spec PyProof.Rows
structure Two (C:Addr) (O:OM) (xb db pb:Addr) (bb:List Nat) (xr dr pr:Addr) (br:List Nat):Prop where
  b:RdAt C O xb db pb bb
  r:RdAt C O xr dr pr br
  nx:xb ≠ xr
  np:pb ≠ pr
section
variable {C:Addr} {O O':OM} {xb db pb xr dr pr p' q:Addr} {bb br br' bb':List Nat}
theorem Two.xp (h:Two C O xb db pb bb xr dr pr br):xb ≠ pr ∧ xr ≠ pb := ⟨fun e => (by have := h.b.x; rw [e,h.r.p] at this; cases this),fun e => (by have := h.r.x; rw [e,h.b.p] at this; cases this)⟩
theorem Two.old (h:Two C O xb db pb bb xr dr pr br) (ho:Old O O'):Two C O' xb db pb bb xr dr pr br := ⟨h.b.old ho,h.r.old ho,h.nx,h.np⟩
noncomputable def zbG (q xb pb xr pr:Addr):Prop := q ≠ xb ∧ q ≠ pb ∧ q ≠ xr ∧ q ≠ pr
theorem Two.apart (h:Two C O xb db pb bb xr dr pr br) (hq:O q = none):zbG q xb pb xr pr :=
  ⟨fun e => (by rw [e,h.b.x] at hq; cases hq),fun e => (by rw [e,h.b.p] at hq; cases hq),fun e => (by rw [e,h.r.x] at hq; cases hq),fun e => (by rw [e,h.r.p] at hq; cases hq)⟩
theorem Two.upd (h:Two C O xb db pb bb xr dr pr br) (hq:zbG q xb pb xr pr) (o:OO):Two C (updO O q o) xb db pb bb xr dr pr br := by
  obtain ⟨q1,q2,q3,q4⟩ := hq
  exact ⟨⟨by rw [zf (Ne.symm q1)]; exact h.b.x,by rw [zf (Ne.symm q2)]; exact h.b.p⟩,⟨by rw [zf (Ne.symm q3)]; exact h.r.x,by rw [zf (Ne.symm q4)]; exact h.r.p⟩,h.nx,h.np⟩
end
end L2
namespace L2
open PySem PySem.Spec PyProof.Rows
section
variable {K:PySem.W.Frag}
section
variable {X:Cx} {N:List Str} {n:Nat} {js:List Nat} {scope:Scope} {cl:List (Str × Addr)} {elt tg iter:Expr} {ifs:List Expr} {pos:Pos} {wi:TI} {g:TG} {tt:TT} {te:TE}
end
end
end L2
namespace L2
open PySem PySem.Spec PyProof.Rows
section
variable {P:Program} {w:World} {K:PySem.W.Frag} {mg:Str → Option Value} {base:Heap}
end
theorem Rd.but {H H':Hp} {x a:Addr} {u:HO} {C dx:Addr} {fs:List (Str × V)} (hx:H x = some (.ins C dx fs)) (hk:∀ b o,b ≠ x → H b = some o → H' b = some o) (hu:(∃ vs,u = .lst vs) ∨ (∃ vs,u = .tup vs) ∨ ∃ kvs,u = .dK kvs) (r:Rd H a u):Rd H' a u := by
  have ne:a ≠ x := fun z => by
    subst z
    rcases r with r | ⟨o,r⟩
    · rw [hx] at r
      cases r
      rcases hu with ⟨_,e⟩ | ⟨_,e⟩ | ⟨_,e⟩ <;> cases e
    · rw [hx] at r; cases r
  rcases r with r | ⟨o,r⟩
  · exact .inl (hk a _ ne r)
  · exact .inr ⟨o,hk a _ ne r⟩
mutual
theorem Rep.but {K:PySem.W.Frag} {H H':Hp} {x:Addr} {C dx:Addr} {fs:List (Str × V)} (hx:H x = some (.ins C dx fs)) (hk:∀ b o,b ≠ x → H b = some o → H' b = some o):∀ (d:PyData) (v:V),Rep K H d v → Rep K H' d v
  | .none,_,h => h
  | .bool _,_,h => h
  | .int _,_,h => h
  | .str _,_,h => h
  | .list ds,_,⟨a,xs,e,h1,h2⟩ => ⟨a,xs,e,h1.elim (fun r => .inl (r.but hx hk (.inl ⟨_,rfl⟩))) .inr,Reps.but hx hk ds xs h2⟩
  | .tuple ds,_,⟨a,xs,e,h1,h2⟩ => ⟨a,xs,e,h1.elim (fun r => .inl (r.but hx hk (.inr (.inl ⟨_,rfl⟩)))) .inr,Reps.but hx hk ds xs h2⟩
  | .dict _,_,⟨e0,a,e,h1⟩ => ⟨e0,a,e,h1.but hx hk (.inr (.inr ⟨_,rfl⟩))⟩
theorem Reps.but {K:PySem.W.Frag} {H H':Hp} {x:Addr} {C dx:Addr} {fs:List (Str × V)} (hx:H x = some (.ins C dx fs)) (hk:∀ b o,b ≠ x → H b = some o → H' b = some o):∀ (ds:List PyData) (vs:List V),Reps K H ds vs → Reps K H' ds vs
  | [],_,h => h
  | d :: ds,_,⟨x',r,e,h1,h2⟩ => ⟨x',r,e,Rep.but hx hk d x' h1,Reps.but hx hk ds r h2⟩
end
end L2
namespace L2
open PySem PySem.Spec PyProof.Rows
end L2
namespace PySem.AutoListH
open AutoSeq1 (wpAny_loadPart')
open MeetsSeq MeetsSeq2 MeetsSeq3 SeqRoads2
end PySem.AutoListH
namespace L2
open PySem PySem.Spec PyProof.Rows
noncomputable abbrev YK := Addr → OM → Prop
section
variable (K:PySem.W.Frag)
noncomputable def zaB (Γ:Gh) (E:XK) (Y:YK):Prop := ∀ Γ' O' H' C,Le Γ Γ' → Sim K Γ' O' H' → Y C O' → E (.ref C) none H'
end
section
variable {K:PySem.W.Frag}
theorem zaB.mono {Γ Γ':Gh} {E:XK} {Y:YK} (h:zaB K Γ E Y) (l:Le Γ Γ'):zaB K Γ' E Y := fun _ _ _ _ l2 => h _ _ _ _ (l.trans l2)
variable {P:Program} {w:World} {mg:Str → Option Value} {base:Heap}
theorem Sim.grow {Γ:Gh} {O:OM} {H H':Hp} (S:Sim K Γ O H) (h:Same H H'):Sim K Γ O H' := by
  refine ⟨fun b u e => h _ _ (S.z _ _ e),fun a oo e => ?_,fun a rs e => ?_,fun b u e => h _ _ (S.f _ _ e),S.gn,S.fg,S.fd,S.u⟩
  · obtain ⟨h1,h2⟩ := S.o _ _ e
    refine ⟨h1,?_⟩
    cases oo with
    | lst ws => obtain ⟨vs,q1,q2⟩ := h2; exact ⟨vs,h _ _ q1,q2⟩
    | dK kvs => obtain ⟨vs,q1,q2⟩ := h2; exact ⟨vs,h _ _ q1,q2⟩
    | ins C dx fs => obtain ⟨vs,q1,q2⟩ := h2; exact ⟨vs,h _ _ q1,q2⟩
    | raw p => obtain ⟨o,q1,q2⟩ := h2; exact ⟨o,h _ _ q1,q2⟩
    | grid rows =>
      obtain ⟨rs,q1,q2,q3,q4,q5⟩ := h2
      refine ⟨rs,q1,h _ _ q2,q3,q4,fun i r ds e1 e2 => ?_⟩
      obtain ⟨z1,z2,vs,z3,z4⟩ := q5 i r ds e1 e2
      exact ⟨z1,z2,vs,h _ _ z3,z4⟩
  · obtain ⟨o,q⟩ := S.gd _ _ e
    exact ⟨o,h _ _ q⟩
end
section
variable {K:PySem.W.Frag}
noncomputable def zez (K:PySem.W.Frag):List V → Hp → VK → Prop := Qs K
theorem zeA {X:Cx} (h:X.K = K):y9 X (.builtin "isinstance") (zez K) := kd h
theorem zcO {ta:TE} {Ta:TEW} (h:RefE K ta Ta):RefE K (tCB (zez K) (uJ ta (uJ (tC (.ty "list")) j4))) (Vj Ta) := zcK h
end
section
variable {K:PySem.W.Frag}
end
end L2
namespace PySem.MeetsSeq2
open AutoSeq1 (wpAny_loadPart')
open MeetsSeq
end PySem.MeetsSeq2
namespace L2
open PySem PySem.Spec PyProof.Rows
noncomputable abbrev DSp (kvs:List (Str × Value)) (D:List (Str × Int)):Prop := Paired (fun (p:Str × Value) (q:Str × Int) => p.1 = q.1 ∧ ∃ t,p.2 = .int q.2 t) kvs D
structure DS (P:Program) (w:World) (K:PySem.W.Frag) (a:Addr) (D:List (Str × Int)):Prop where
  ns:(a == sysModules) = false
  ex:∃ (kvs:List (Str × Value)) (ep:Nat),(∀ h:Heap,K.In h → h.DictAt (strKind P w) a kvs ep) ∧ DSp kvs D
theorem Vl:∀ {kvs:List (Str × Value)} {D:List (Str × Int)},PyProof.V.FlatPairs PyData.str kvs ((D.map fun p => (p.1,PyData.int p.2)).map fun p => (PyData.str p.1,p.2)) → DSp kvs D
  | _,[],h => by
    cases h
    exact .nil
  | _,(y,i) :: D,h => by
    simp only [List.map_cons] at h
    cases h with
    | cons hf ht =>
      refine .cons ⟨rfl,?_⟩ (Vl ht)
      cases hf (default:Heap) with
      | int _ t => exact ⟨t,rfl⟩
theorem DS.of {P:Program} {w:World} {K:PySem.W.Frag} {a:Addr} {D:List (Str × Int)} (hl:KTD.tabLook KTD.flatLooks (fun b => K.lookup b) a (D.map fun p => (p.1,PyData.int p.2)) = true)
    (hn:((D.map fun p => (p.1,PyData.int p.2)).map (·.1)).Nodup) (hh:KTD.hashesOf (fun b => K.lookup b) a = (D.map fun p => (p.1,PyData.int p.2)).map fun p => (strKind P w).hash p.1):DS P w K a D := by
  simp only [KTD.tabLook,Bool.and_eq_true] at hl
  obtain ⟨h0,hl⟩ := hl
  split at hl
  · rename_i o ho
    simp only [Bool.and_eq_true] at hl
    obtain ⟨⟨⟨e1,e2⟩,e3⟩,e4⟩ := hl
    split at e4
    · rename_i es ep hd
      have hh':es.toList.map (·.hash) = (D.map fun p => (p.1,PyData.int p.2)).map fun p => (strKind P w).hash p.1 := by
        rw [← hh]; unfold KTD.hashesOf; simp only [ho,hd]
      obtain ⟨hk,kvs,hp,hf,hm⟩ := KTD.strs_of_rows P w (KTD.rows_of_look (fun _ _ x => KTD.flat_of_looks x) e4) hh'
      exact ⟨by simpa using h0,kvs,ep,fun h X => ⟨o,es,X _ _ ho,⟨beq_iff_eq.mp e1,by simpa using e2,by simpa using e3⟩,hd,fun e he => hk e (by simpa using he),hp,by rw [hm]; exact hn⟩,Vl hf⟩
    · cases e4
  · cases hl
noncomputable def Iti (D:List (Str × Int)):It :=
  ⟨fun i _ => i < D.length,
   fun i H v H' => ∃ t p,v = .ref t ∧ H t = none ∧ D[i]? = some p ∧ H' = upd H t (.tup [.str p.1,.int p.2]),
   fun i _ => D.length ≤ i⟩
theorem QI {P:Program} {w:World} {K:PySem.W.Frag} {es:List Expr} {k:Nat} {pos:Pos} {a n ep:Nat} {D:List (Str × Int)} {kvs:List (Str × Value)} (hat:∀ h:Heap,K.In h → h.DictAt (strKind P w) a kvs ep) (hp:DSp kvs D) :
    Turn P w K (.Tuple es k pos) (Iti D) [n] n (fun i h => ∃ ok ov,IsItemIter h n a i kvs.length ep ok ov) where
  mem := by simp
  obj := fun i h st c hc => by
    obtain ⟨ok,ov,hz⟩ := st
    cases List.mem_singleton.1 hc
    exact ⟨_,hz,fun v z => by
      have z':Data.fields _ = Data.cell v := z
      cases z'⟩
  keep := fun i h h' st k => by
    obtain ⟨ok,ov,hz⟩ := st
    exact ⟨ok,ov,k _ (by simp) _ hz⟩
  item := by
    intro X hP hw hK hc i pins s σ H E I hf st hg
    subst hP hw hK
    obtain ⟨ok,ov,hz⟩ := st
    have hg':i < D.length := hg
    obtain ⟨q,hq,e1,t,e2⟩ := Paired.getQ hp (List.getElem?_eq_getElem hg')
    obtain ⟨qk,qv⟩ := q
    simp only at e1 e2
    subst e2
    have hm := hat s.heap I.kIn
    refine wpAny_pyNext_items_item hz hm hq fun key h' hkey hz' hp' hsz kk => ?_
    obtain ⟨tk,rfl⟩ := Value.isStrOf_shape hkey
    refine ⟨_,rfl,wpAny_letOwnedTupleGo_items hz' fun h3 z3 sb => ?_⟩
    have hn := I.hok.fresh (Nat.le_refl s.heap.objs.size)
    have I1:Inv X pins σ (upd H s.heap.objs.size (.tup [.str qk,.int D[i].2])) { s with heap := s.heap.push { cls := .type "tuple",data := .seq [Value.str qk tk,Value.int D[i].2 t].toArray },toks := s.toks } :=
      I.laid (t' := s.toks) (fun b o e => Heap.get?_push_of_some _ e) (Nat.le_refl _) ⟨by show 2 ≤ sizeLine; decide,[Value.str qk tk,Value.int D[i].2 t],.cons ⟨tk,rfl⟩ (.cons ⟨t,rfl⟩ .nil),IsTup.new s.heap _⟩
    have ln:n ≠ s.heap.objs.size := Nat.ne_of_lt (Heap.lt_size hz)
    have I2 := I1.turnedL (h' := h3) (t' := s.toks) (fp := [n]) (fun c o hc q => by
      have c0:c ≠ n := fun z => hc (by simp [z])
      by_cases hcz:c = s.heap.objs.size
      · subst hcz
        have q':(s.heap.push { cls := .type "tuple",data := .seq #[Value.str qk tk,Value.int D[i].2 t] }).get? s.heap.objs.size = some o := q
        rw [Heap.get?_push_size s.heap (o := { cls := .type "tuple",data := .seq #[Value.str qk tk,Value.int D[i].2 t] }) rfl] at q'
        exact (sb.2 _ c0).trans (hp'.trans q')
      · have q':(s.heap.push { cls := .type "tuple",data := .seq #[Value.str qk tk,Value.int D[i].2 t] }).get? c = some o := q
        rw [Heap.get?_push_ne _ _ _ hcz] at q'
        exact (sb.2 c c0).trans (kk c o c0 q')) fun c hc => by
          cases List.mem_singleton.1 hc
          exact ⟨by rw [zi ln]; exact (hf n (by simp)).1,(hf n (by simp)).2⟩
    refine ⟨.ref s.heap.objs.size,_,I2,rfl,⟨_,D[i],rfl,hn,List.getElem?_eq_getElem hg',by rw [e1]⟩,⟨_,_,z3⟩,fun c hc => by
      cases List.mem_singleton.1 hc
      rw [zi ln]
      exact (hf n (by simp)).1⟩
  done := by
    intro X hP hw hK hc i pins s σ H E I hf st hg
    subst hP hw hK
    obtain ⟨ok,ov,hz⟩ := st
    have hg':D.length ≤ i := hg
    have hm := hat s.heap I.kIn
    refine wpAny_pyNext_items_end (I.ok.hd hc) hz hm (List.getElem?_eq_none (by rw [Paired.length hp]; exact hg')) fun h' kk => ⟨rfl,I.turnedL (t' := s.toks) (fp := [n]) (fun c o hc e => kk c o (fun z => hc (by simp [z])) e) hf⟩
  self := fun _ _ _ _ _ st h => by
    obtain ⟨ok,ov,hz⟩ := st
    exact PySem.W.kcp_self hz h
noncomputable def Vm (P:Program) (w:World) (K:PySem.W.Frag) (to:TE):TI := fun σ H R => to σ H fun x H1 => ∃ a D,x = .ref a ∧ DS P w K a D ∧ R (Iti D) H1
theorem zaC {X:Cx} {es:List Expr} {k:Nat} {tp:Pos} {o:Expr} {to:TE} {apos cpos:Pos} (ho:PE X o to) (hbase:attributeBase o "items" X.env (eval o X.env) = eval o X.env := by rfl) (hline:(apos.endLine == cpos.line) = true := by rfl) :
    PI X (.Tuple es k tp) (.Call (.Attribute o "items" apos) [] [] cpos) (Vm X.prog X.w X.K to) := by
  intro pins s σ H R I h
  refine wpAny_Call_method0_late hbase hline (thn (ho pins s σ H _ I h) fun v s1 ⟨x,H1,I1,r1,a,D,ex,hD,q⟩ => ?_)
  subst ex
  cases r1
  obtain ⟨kvs,ep,hat,hp⟩ := hD.ex
  have dd := hat s1.heap I1.kIn
  obtain ⟨ob,bs,hob,hc,hrest⟩ := id dd
  have dof:s1.heap.DictOf (strKind X.prog X.w) a kvs := ⟨ob,bs,ep,hob,hc,hrest⟩
  refine ⟨"dict","dict.items",PySem.F.plainAttrs_dict,PySem.F.slot_dict_items,PySem.F.type_dict_items,⟨ob,hob,hc.1⟩,fun b e => by injection e with e; subst e; exact ⟨ob,hob,hc.2.1⟩,Calls.callWith_builtin rfl (PySem.evalArgs_none ?_)⟩
  refine call_meetsIn PySem.F.slot_dict_items dof.typeIs PySem.F.entry_dict_items (PySem.F.args_dict_items_1 _) (meets_dict_items (strKind X.prog X.w) a hD.ns) ⟨⟨kvs,dof⟩,?_⟩
  have hv:(s1.heap.push { cls := .type "dict_items",data := .fields #[.ref a] }).IsItemsView s1.heap.objs.size a := ⟨_,Heap.get?_push_size _ rfl,rfl,rfl⟩
  have k1:∀ b o,s1.heap.get? b = some o → (s1.heap.push { cls := .type "dict_items",data := .fields #[.ref a] }).get? b = some o := fun b o e => Heap.get?_push_of_some _ e
  have I2:Inv X pins σ H1 { s1 with heap := s1.heap.push { cls := .type "dict_items",data := .fields #[.ref a] } } := I1.kept (t' := s1.toks) k1
  refine wpAny_pyIter_items (knd := strKind X.prog X.w) hv (hat _ I2.kIn) ?_
  refine ⟨_,[(s1.heap.push { cls := .type "dict_items",data := .fields #[.ref a] }).objs.size],_,_,H1,rfl,I2.kept (t' := s1.toks) fun b o e => Heap.get?_push_of_some _ e,QI (ep := ep) hat hp,⟨.none,.none,Heap.get?_push_size _ rfl⟩,fun c hc => ?_,q⟩
  cases List.mem_singleton.1 hc
  exact I2.fpOk (Nat.le_refl _) (I2.hok.fresh (Nat.le_refl _))
section
variable {K:PySem.W.Frag} {P:Program} {w:World}
noncomputable def J0 (P:Program) (w:World) (K:PySem.W.Frag) (To:TEW):TIW := fun ρ O R => To ρ O fun x O1 => ∃ a D,x = .own a ∧ DS P w K a D ∧ R (D.map fun p => W.d (.tuple [.str p.1,.int p.2])) (fun _ => True) O1
theorem QJ {to:TE} {To:TEW} (h:RefE K to To):uz K (Vm P w K to) (J0 P w K To) := by
  intro Γ O H ρ σ S r Q R hT k
  refine h _ _ _ _ _ S r _ _ hT fun Γ1 O1 H1 x v l1 S1 r1 h1 => ?_
  obtain ⟨a,D,rfl,hD,h1⟩ := h1
  refine ⟨a,D,r1,hD,k _ _ _ _ _ _ l1 S1 (fun i Γ' O' H' hz hg S' e' => ⟨fun w' hw => ?_,fun hi => ?_⟩) h1⟩
  · rw [List.getElem?_map] at hw
    cases hd:D[i]? with
    | none => rw [hd] at hw; cases hw
    | some p =>
      rw [hd] at hw
      cases hw
      refine ⟨(List.getElem?_eq_some_iff.mp hd).1,fun y H2 ⟨t,p',e1,e2,e3,e4⟩ => ?_⟩
      rw [hd] at e3
      cases e3
      subst e1 e4
      obtain ⟨Γ2,l2,S2,r2⟩ := ka S' (ds := [.str p.1,.int p.2]) (vs := [.str p.1,.int p.2]) ⟨_,_,rfl,rfl,_,_,rfl,rfl,rfl⟩ e2
      exact ⟨Γ2,l2,S2,r2⟩
  · show D.length ≤ i
    rw [hi,List.length_map]
    exact Nat.le_refl _
theorem Z1 {i:Int} (h0:0 ≤ i) (h1:i ≤ 1000000):i.natAbs.log2 < 1920 := by
  by_cases hz:i.natAbs = 0
  · rw [hz]
    decide
  · refine (Nat.log2_lt hz).2 ?_
    have:i.natAbs ≤ 1000000 := by omega
    exact Nat.lt_of_le_of_lt this (Nat.lt_of_lt_of_le (show 1000000 < 2 ^ 20 by decide) (Nat.pow_le_pow_right (n := 2) (by decide) (show 20 ≤ 1920 by decide)))
noncomputable def zbH:List V → Hp → VK → Prop := fun xs H Q => ∃ i,xs = [.int i] ∧ i.natAbs.log2 < 1920 ∧ Q (.str (toString i)) H
end
theorem vT {X:Cx}:y9 X (.type "str") zbH := XG
section
variable {K:PySem.W.Frag}
end
noncomputable def Yx:V → Option Str
  | .str z => if z.length ≤ 1000 then some z else none
  | .int i => if -1000000 ≤ i ∧ i ≤ 1000000 then some (toString i) else none
  | _ => none
noncomputable def zeB (ta:TE) (z:Str) (tb:TE):TE := fun σ H Q => ta σ H fun x H1 => ∃ s1,Yx x = some s1 ∧ s1.length ≤ 1000 ∧ tb σ H1 fun y H2 => ∃ s2,Yx y = some s2 ∧ s2.length ≤ 1000 ∧ Q (.str (((Str.empty ++ s1) ++ z) ++ s2)) H2
theorem J1 {X:Cx} {pins:List (Addr × Obj)} {s:Shared} {σ:St} {H:Hp} {x:V} {v:Value} {y:Str} {Q:Value → Shared → Prop} (I:Inv X pins σ H s) (r:RelV x v) (e:Yx x = some y) (h:∀ t s',Inv X pins σ H s' → Q (.str y t) s'):wpAny (model X.prog X.w) X.A (formatField v Str.empty) Q X.xe s := by
  cases x with
  | str z =>
    obtain ⟨t,rfl⟩ := r
    simp only [Yx] at e
    split at e
    · rename_i hz
      cases e
      exact formatField_str (fun t' tk => h t' _ (I.tok tk)) (by rw [sizeLine_eq]; omega)
    · cases e
  | int i =>
    obtain ⟨t,rfl⟩ := r
    simp only [Yx] at e
    split at e
    · rename_i hz
      cases e
      exact formatField_int_small (by have e := Z1 (i := (i.natAbs:Int)) (by omega) (by omega); rwa [Int.natAbs_natCast] at e) (h _ _ (I.tok _))
    · cases e
  | _ => cases e
theorem Vn {X:Cx} {a b:Expr} {z:Str} {k:Nat} {p1 p2 p3 pos:Pos} {ta tb:TE} (ha:PE X a ta) (hb:PE X b tb) (hz:z.length ≤ 1000):PE X (.JoinedStr [.FormattedValue a (-1) none p1,.Constant (.str z) k p2,.FormattedValue b (-1) none p3] pos) (zeB ta z tb) := by
  intro pins s σ H Q I h
  refine JoinedStr_many (joinParts_cons (FormattedValue_plain (thn (ha pins s σ H _ I h) fun v s1 ⟨x,H1,I1,r1,s1',e1,l1,q1⟩ => J1 I1 r1 e1 fun t s2 I2 => ?_)))
  have len:∀ a b:Str,(a ++ b).length = a.length + b.length := strLen_append
  have le0:Str.empty.length = 0 := rfl
  refine ⟨by rw [len,le0,sizeLine_eq]; omega,?_⟩
  refine joinParts_cons (thn (zg (X := X) (x := z) pins s2 σ H1 (fun v H' => v = .str z ∧ H' = H1) I2 ⟨rfl,rfl⟩) fun v s3 ⟨x',H',I3,r3,ex,eH⟩ => ?_)
  subst ex eH
  obtain ⟨t3,rfl⟩ := r3
  refine ⟨by rw [len,len,le0,sizeLine_eq]; omega,?_⟩
  refine joinParts_cons (FormattedValue_plain (thn (hb pins s3 σ H' _ I3 q1) fun v s4 ⟨y,H2,I4,r4,s2',e2,l2,q2⟩ => J1 I4 r4 e2 fun t s5 I5 => ?_))
  refine ⟨by rw [len,len,len,le0,sizeLine_eq]; omega,?_⟩
  exact joinParts_nil ⟨.str _,H2,I5.tok _,⟨_,rfl⟩,q2⟩ (by rw [len,len,len,le0,sizeLine_eq]; omega)
section
variable {K:PySem.W.Frag}
noncomputable def QK:W → Option Str
  | .d (.str z) => if z.length ≤ 1000 then some z else none
  | .d (.int i) => if -1000000 ≤ i ∧ i ≤ 1000000 then some (toString i) else none
  | _ => none
theorem J2 {Γ:Gh} {x:W} {v:V} {y:Str} (r:relW K Γ x v) (e:QK x = some y):Yx v = some y := by
  cases x with
  | d d =>
    cases d with
    | str z => rw [show v = V.str z from r]; exact e
    | int z => rw [show v = V.int z from r]; exact e
    | _ => cases e
  | own _ => cases e
  | row _ _ => cases e
noncomputable def zaD (Ta:TEW) (z:Str) (Tb:TEW):TEW := fun ρ O R => Ta ρ O fun x O1 => ∃ s1,QK x = some s1 ∧ s1.length ≤ 1000 ∧ Tb ρ O1 fun y O2 => ∃ s2,QK y = some s2 ∧ s2.length ≤ 1000 ∧ R (.d (.str (((Str.empty ++ s1) ++ z) ++ s2))) O2
theorem zcP {ta tb:TE} {Ta Tb:TEW} {z:Str} (ha:RefE K ta Ta) (hb:RefE K tb Tb):RefE K (zeB ta z tb) (zaD Ta z Tb) := by
  intro Γ O H ρ σ S r Q R hT k
  refine ha _ _ _ _ _ S r _ _ hT fun Γ1 O1 H1 x v l1 S1 rx h1 => ?_
  obtain ⟨s1,e1,n1,h1⟩ := h1
  refine ⟨s1,J2 rx e1,n1,hb _ _ _ _ _ S1 (r.mono l1) _ _ h1 fun Γ2 O2 H2 y u l2 S2 ry h2 => ?_⟩
  obtain ⟨s2,e2,n2,h2⟩ := h2
  exact ⟨s2,J2 ry e2,n2,k _ _ _ _ _ (l1.trans l2) S2 uO h2⟩
end
end L2
namespace L2
open PySem PySem.W PySem.Spec PySem.Calls PyProof.Rows
structure RoomE (k:Nat) (A:Around):Prop where
  dp:A.depth + 3 * k + 5 < recursionLimit
  un:A.units + 16 * k + 200 < cLine
  gd:A.guards = some []
theorem Room.e {k:Nat} {A:Around} (r:Room k A):RoomE k A := ⟨r.dp,r.un,r.gd⟩
theorem RoomE.mono {j k:Nat} {A:Around} (r:RoomE k A) (h:j ≤ k):RoomE j A := ⟨by have := r.dp; omega,by have := r.un; omega,r.gd⟩
theorem RoomE.deeper {k:Nat} {A:Around} (r:RoomE (k + 1) A) (env:Env):RoomE k (A.deeper env) :=
  ⟨by have := r.dp; show A.depth + 1 + 3 * k + 5 < _; omega,by have := r.un; show A.units + 3 + 16 * k + 200 < _; omega,r.gd⟩
section
variable {X:Cx} {K:PySem.W.Frag} {P:Program} {w:World}
theorem J3 {es:List Expr} {k:Nat} {tp:Pos} {o:Expr} {to:TE} {apos cpos:Pos} (hK:X.K = K) (hP:X.prog = P) (hw:X.w = w) (ho:PE X o to) (hbase:attributeBase o "items" X.env (eval o X.env) = eval o X.env := by rfl) (hline:(apos.endLine == cpos.line) = true := by rfl) :
    PI X (.Tuple es k tp) (.Call (.Attribute o "items" apos) [] [] cpos) (Vm P w K to) := by subst hK hP hw; exact zaC ho hbase hline
end
end L2
namespace L2
open PySem PySem.Spec PyProof.Rows
noncomputable def jnB:List (List Nat) → List Nat
  | [] => []
  | [a] => a
  | a :: b :: r => a ++ 32 :: jnB (b :: r)
noncomputable def sp1:Str := Str.ofString " "
theorem zeC:sp1 = ⟨#[32]⟩ := by decide +kernel
theorem Z2:∀ ps:List Str,(Str.join sp1 ps).cps.toList = jnB (ps.map (·.cps.toList))
  | [] => rfl
  | [p] => rfl
  | p :: q :: r => by
    rw [join_cons_cons,jd,jd,Z2 (q :: r)]
    have e:sp1.cps.toList = [32] := by rw [zeC]
    have e2:jnB ((p :: q :: r).map (·.cps.toList)) = p.cps.toList ++ 32 :: jnB ((q :: r).map (·.cps.toList)) := rfl
    rw [e,e2]
    simp
theorem UP:∀ A:List (List Nat),(jnB A).length + 1 = (A.map (·.length)).sum + A.length ∨ A = []
  | [] => .inr rfl
  | [a] => .inl (by simp [jnB])
  | a :: b :: r => by
    refine .inl ?_
    rcases UP (b :: r) with h | h
    · simp only [jnB,List.length_append,List.length_cons,List.map_cons,List.sum_cons] at h ⊢
      omega
    · cases h
theorem Y0 {ps:List Str} (h:ps ≠ []):(Str.join sp1 ps).length + 1 = (ps.map (·.length)).sum + ps.length := by
  have := UP (ps.map (·.cps.toList))
  rcases this with e | e
  · rw [← Z2,List.length_map,List.map_map] at e
    rw [UM]
    have e2:(ps.map (·.length)) = ps.map ((fun x:List Nat => x.length) ∘ fun x:Str => x.cps.toList) := List.map_congr_left fun p _ => UM p
    rw [e2]
    exact e
  · exact absurd (by simpa using e) h
theorem uX (a b:Nat):Builtin.bitAnd (a:Int) (b:Int) = ((a &&& b:Nat):Int) := by
  unfold Builtin.bitAnd
  rw [decide_eq_true (Int.natCast_nonneg a),decide_eq_true (Int.natCast_nonneg b)]
  rfl
noncomputable def bitsD:List (Str × Int) := [(Str.ofString "bold",64),(Str.ofString "under",128),(Str.ofString "turned",256)]
noncomputable def qF:Str := Str.ofString "bold"
noncomputable def jz:Str := Str.ofString "under"
noncomputable def jA:Str := Str.ofString "turned"
noncomputable def jB:Str := Str.ofString "fore"
noncomputable def Yy:Str := Str.ofString "back"
noncomputable def fig (k:Nat):Str := ⟨#[48 + k]⟩
noncomputable def bun (n:Nat):List (List Str) := (if n / 64 % 2 = 1 then [[qF]] else []) ++ (if n / 128 % 2 = 1 then [[jz]] else []) ++ (if n / 256 % 2 = 1 then [[jA]] else []) ++ (if n % 8 = 0 then [] else [[jB,fig (n % 8)]]) ++ (if n / 8 % 8 = 0 then [] else [[Yy,fig (n / 8 % 8)]])
noncomputable def wl (n:Nat):List Str := (bun n).flatten
noncomputable def jC (n:Nat):Str := if n = 0 then Str.ofString "plain" else Str.join sp1 ((bun n).map (Str.join sp1))
theorem zfo {n:Nat} (h0:n ≠ 0) (h:n < 512):wl n ≠ [] := by
  unfold wl bun
  intro e
  simp only [List.flatten_append,List.append_eq_nil_iff] at e
  obtain ⟨⟨⟨⟨e1,e2⟩,e3⟩,e4⟩,e5⟩ := e
  have g1:n / 64 % 2 ≠ 1 := fun z => by rw [if_pos z] at e1; simp at e1
  have g2:n / 128 % 2 ≠ 1 := fun z => by rw [if_pos z] at e2; simp at e2
  have g3:n / 256 % 2 ≠ 1 := fun z => by rw [if_pos z] at e3; simp at e3
  have g4:n % 8 = 0 := Classical.byContradiction fun z => by rw [if_neg z] at e4; simp at e4
  have g5:n / 8 % 8 = 0 := Classical.byContradiction fun z => by rw [if_neg z] at e5; simp at e5
  omega
end L2
namespace L2
open PySem PySem.Spec PyProof.Rows
section
variable {K:PySem.W.Frag}
theorem Sim.all (H:Hp):Sim K ⟨H,fun _ => none,fun _ => none⟩ (fun _ => none) H :=
  ⟨Same.refl _,fun _ _ e => (by cases e),fun _ _ e => (by cases e),fun _ _ e => (by cases e),fun _ _ e => (by cases e),fun _ _ e => (by cases e),fun _ _ e => (by cases e),fun _ _ _ _ _ _ _ e => (by cases e)⟩
variable {P:Program} {w:World} {mg:Str → Option Value} {base:Heap}
end
section
variable {X:Cx} {K:PySem.W.Frag}
end
section
variable {X:Cx} {pins:List (Addr × Obj)} {σ:St} {H H':Hp} {s:Shared} {h':Heap}
end
section
variable {X:Cx} {K:PySem.W.Frag}
end
section
variable {K:PySem.W.Frag}
end
end L2
namespace PySem
open Sem (wp)
theorem Uc:typeLookup (.type "zip") "keys" = pure none := by rw [typeLookup_type,builtinLookup_eq_fast]; kernel_rfl
theorem Z3:typeLookup (.type "zip") "__getattr__" = pure none := by rw [typeLookup_type,builtinLookup_eq_fast]; kernel_rfl
theorem je:entryFor table "zip.__getattribute__" = some Builtin.«object.__getattribute__» :=
  entryFor_alias (id' := "object.__getattribute__") (by kernel_rfl) (by decide +kernel) (by decide +kernel) (by kernel_rfl)
theorem Y7 (a:Addr) (xs:Array Value) (sl:Array (Option Value)) (name:Str) (u:Tok) (hmiss:typeLookup (.type "zip") name = pure none) (hname:(["__module__","__name__","__qualname__","__doc__","__annotations__"]:List Str).contains name = false) (hsz:name.length + 100 ≤ sizeLine := by size_fits) :
    Meets (Builtin.«object.__getattribute__» ⟨[.ref a,.str name u],[]⟩) (fun A R s => s.heap.get? a = some { cls := .type "zip",dict := none,data := .fields xs,slots := sl } ∧ raisesAttr (.ref a) name A R s) :=
  Meets.of_wp fun prog w A R s hs => by
    obtain ⟨hp,g,d,tk,os⟩ := s
    obtain ⟨hx,hs⟩ := hs
    have hT:(⟨hp,g,d,tk,os⟩:Shared).TypeIs (.ref a) "zip" := ⟨_,hx,rfl⟩
    unfold Builtin.«object.__getattribute__»
    repeat (any_goals (first | assumption | wp_step))
    simp only [hname,Bool.false_eq_true,if_false]
    repeat (any_goals (first | assumption | wp_step))
    exact wpAny_raiseAttrError hs.1 hs.2 (attrMsg_fits (by decide +kernel) hsz)
section
variable {prog:Program} {w:World} {A:Around} {E:Value → Shared → Prop} {s:Shared}
theorem QL {a:Addr} {xs:Array Value} {sl:Array (Option Value)} {Q:Option Value → Shared → Prop}
    (hx:s.heap.get? a = some { cls := .type "zip",dict := none,data := .fields xs,slots := sl }) (hA:A.handled = none)
    (h:∀ h' tk,(∀ b u,s.heap.get? b = some u → h'.get? b = some u) → Q none { s with heap := h',toks := tk }) :
    wpAny (model prog w) A (getAttr? (.ref a) "keys") Q E s := by
  obtain ⟨hp,g,d,tk,os⟩ := s
  have hT:∀ tk',(⟨hp,g,d,tk',os⟩:Shared).TypeIs (.ref a) "zip" := fun _ => ⟨_,hx,rfl⟩
  have f1 := sub_AttributeError
  have f3 := F.slot_zip_getattribute.lookup
  have f4 := F.slot_zip_getattribute.bind (.ref a)
  have f5 := Z3
  have hname:(["__module__","__name__","__qualname__","__doc__","__annotations__"]:List Str).contains "keys" = false := by decide
  unfold getAttr? getAttrBy? getAttrBy
  repeat (any_goals (first | assumption | exact hT _ | ((with_reducible show wpAny _ _ (call (Value.builtin "zip.__getattribute__") _ _) _ _ _); refine call_meets F.slot_zip_getattribute (hT _) je (F.args_zip_getattribute_2 _ _) (Y7 a xs sl "keys" _ Uc hname (by decide)) ⟨hx,hA,fun h' tk' e hx' => ?_⟩) | wp_step))
  obtain ⟨t',u',he⟩ := hx'.there
  show wpAny _ _ (getattributeRaised _ _ _ _ _ _ _) _ _ _
  unfold getattributeRaised
  repeat (any_goals (first | assumption | wp_step))
  exact h _ _ hx'.keeps
end
section
variable {prog:Program} {w:World} {A:Around} {K:Type} [DecidableEq K] {knd:KeyKind prog w K}
variable {z TI TO i1 i2:Addr} {fp1 fp2:List Addr} {n1 n2:Nat} {P1 P2:Nat → Value → Prop} {St1 St2:Nat → Heap → Prop}
theorem zcQ (D:ZlApart z TI TO i1 i2 fp1 fp2) (D1:Draws prog w A.in1.in1 i1 fp1 n1 P1 St1) (D2:Draws prog w A.in1.in1 i2 fp2 n2 P2 St2) {n:Nat} (hn:n = min n1 n2) {d:Addr} (hdf:d ∉ [z,TI,TO,i1,i2] ++ fp1 ++ fp2) {r:Value} {R:Result → Shared → Prop} :
    ∀ (more:List (K × Value)) (k:Nat) (s:Shared) (kvs:List (K × Value)),k + more.length = n → s.heap.DictOf knd d kvs → ZlS z TI TO i1 i2 St1 St2 k s.heap →
      (∀ (j:Nat) kv,more[j]? = some kv → (∀ x,P1 (k + j) x → knd.is kv.1 x = true) ∧ ∀ y,P2 (k + j) y → y = kv.2) → kvs.length + more.length ≤ sizeLine →
      (∀ h' tk,h'.DictOf knd d (merged kvs more) → (∀ c o,c ∉ [d,z,TO,i1,i2] → s.heap.get? c = some o → h'.get? c = some o) → R (.ok (.ret r)) { s with heap := h',toks := tk }) →
      codeAny (model prog w) A (.builtin "dict.update.loop" ⟨[.ref d,.ref z,rawInt k,r],[]⟩) R s := by
  have dz:d ≠ z := fun e => hdf (by simp [e])
  have dTO:d ≠ TO := fun e => hdf (by simp [e])
  have di1:d ≠ i1 := fun e => hdf (by simp [e])
  have di2:d ≠ i2 := fun e => hdf (by simp [e])
  intro more
  induction more with
  | nil =>
    intro k s kvs hi hd hst hp hz hR
    have hend:k = n1 ∨ (k < n1 ∧ k = n2) := by simp at hi; omega
    refine codeAny_builtin vJ ?_
    rw [Around.under_plainId xn _]
    show wpAny _ A.in1 (pyNext (.ref z) >>= _) _ _ _
    refine wpAny_bind (zeq D D1 D2 hst hend fun h' tk hk' => ?_)
    have kk:∀ b o,b ∉ [d,z,TO,i1,i2] → s.heap.get? b = some o → h'.get? b = some o := fun b o hb e => hk' b o (fun q => hb (by simp [q])) (fun q => hb (by simp [q])) (fun q => hb (by simp [q])) (fun q => hb (by simp [q])) e
    show wpAny _ _ (Builtin.Dict.addKeywords d [] >>= _) _ _ _
    obtain ⟨od,es,ep,hod,rd⟩ := hd
    exact wpAny_bind (wpAny_pure (wpAny_pure (hR h' tk ⟨od,es,ep,hk' _ _ dz dTO di1 di2 hod,rd⟩ kk)))
  | cons kv more ih =>
    intro k s kvs hi hd hst hp hz hR
    have hk1:k < n1 ∧ k < n2 := by simp at hi; omega
    refine codeAny_builtin vJ ?_
    rw [Around.under_plainId xn _]
    show wpAny _ A.in1 (pyNext (.ref z) >>= _) _ _ _
    refine wpAny_bind (zcH D D1 D2 hst hk1.1 hk1.2 fun x y h' tk p1 p2 hpr hst' hk' => ?_)
    obtain ⟨hkx,hky⟩ := hp 0 kv rfl
    have hkx := hkx x (by simpa using p1)
    have hky := hky y (by simpa using p2)
    subst hky
    have hd1:h'.DictOf knd d kvs := by
      obtain ⟨od,es,ep,hod,rd⟩ := hd
      exact ⟨od,es,ep,hk' _ _ dz dTO di1 di2 hod,rd⟩
    show wpAny _ _ (holding [.ref s.heap.objs.size] _ >>= _) _ _ _
    refine wpAny_bind (wpAny_holding ?_)
    refine wpAny_bind (wpAny_tryCatch ?_)
    unfold Builtin.Dict.pairItems
    refine wpAny_bind (wpAny_typeOf (T := "tuple") ⟨_,hpr,rfl⟩ ?_)
    rw [if_pos (by decide)]
    refine wpAny_bind (wpAny_seqItems hpr rfl ?_)
    refine wpAny_pure ?_
    show wpAny _ _ (holding [x,kv.2] (dictSet d x kv.2)) _ _ _
    refine wpAny_holding (wpAny_dictSet_pairs hkx hd1 (fun h2 hd2 sb2 => ?_) (by simp at hz; omega))
    show wpAny _ _ (again (.builtin "dict.update.loop" ⟨[.ref d,.ref z,rawInt ((k:Int) + 1),r],[]⟩)) _ _ _
    have ei:((k:Int) + 1) = (((k + 1:Nat)):Int) := by omega
    rw [ei]
    have oth:∀ b o,b ≠ d → h'.get? b = some o → h2.get? b = some o := fun b o hb e => (sb2.2 b hb).trans e
    have keep:∀ c o,c ∉ [d,z,TO,i1,i2] → s.heap.get? c = some o → h2.get? c = some o := fun c o hb e => oth c o (fun q => hb (by simp [q])) (hk' c o (fun q => hb (by simp [q])) (fun q => hb (by simp [q])) (fun q => hb (by simp [q])) (fun q => hb (by simp [q])) e)
    refine wpAny_pure ⟨plainId_quiet xn _,ih (k + 1) _ (stored kvs kv.1 kv.2) (by simp at hi; omega) hd2 ?_ (fun j kv' hj => ?_) ?_ fun h3 tk hd3 k3 => ?_⟩
    · obtain ⟨f0,f1,a,b,gz,gf,gTI,gTO,g1,g2⟩ := hst'
      refine ⟨f0,f1,a,b,oth _ _ (Ne.symm dz) gz,?_,oth _ _ (fun q => hdf (by simp [← q])) gTI,oth _ _ (Ne.symm dTO) gTO,D1.frame _ _ _ g1 fun c hc o e => oth _ _ (fun q => hdf (by simp [← q,hc])) e,D2.frame _ _ _ g2 fun c hc o e => oth _ _ (fun q => hdf (by simp [← q,hc])) e⟩
      rcases gf with g | ⟨t,o,e1,e2,e3⟩
      · exact .inl g
      · refine .inr ⟨t,?_⟩
        by_cases ht:t = d
        · subst ht
          obtain ⟨od,es,ep,hod,rd⟩ := hd2
          exact ⟨od,e1,hod,e3⟩
        · exact ⟨o,e1,oth _ _ ht e2,e3⟩
    · have := hp (j + 1) kv' (by simpa using hj)
      rw [show k + (j + 1) = k + 1 + j by omega] at this
      exact this
    · have := stored_length_le kvs kv.1 kv.2
      simp at hz
      omega
    · exact hR h3 tk hd3 fun c o h4 q => k3 c o h4 (keep c o h4 q)
theorem zcR {E:Value → Shared → Prop} {s:Shared} (hh:A.handled = none) (D:ZlApart z TI TO i1 i2 fp1 fp2) (D1:Draws prog w A.in1.in1.in1 i1 fp1 n1 P1 St1) (D2:Draws prog w A.in1.in1.in1 i2 fp2 n2 P2 St2) {n:Nat} (hn:n = min n1 n2) (hlt:∀ b ∈ [z,TI,TO,i1,i2] ++ fp1 ++ fp2,b < s.heap.objs.size) {Q:Value → Shared → Prop}
    (hz0:∃ f0,xD s.heap z TI TO f0 false) (hst:ZlS z TI TO i1 i2 St1 St2 0 s.heap) {more:List (K × Value)} (hlen:more.length = n) (hp:∀ (j:Nat) kv,more[j]? = some kv → (∀ x,P1 j x → knd.is kv.1 x = true) ∧ ∀ y,P2 j y → y = kv.2) (hz:more.length ≤ sizeLine)
    (h:∀ h' tk,h'.DictOf knd s.heap.objs.size (merged [] more) → (∀ c o,c ∉ [z,TO,i1,i2] → s.heap.get? c = some o → h'.get? c = some o) → Q (.ref s.heap.objs.size) { s with heap := h',toks := tk }) :
    wpAny (model prog w) A (call (.type "dict") [.ref z]) Q E s := by
  refine callType_codes (Q₁ := fun obj s₁ => obj = .ref s.heap.objs.size ∧ s₁ = { s with heap := s.heap.push { cls := .type "dict",data := .dict #[] } }) F.kt_called_dict (F.kt_typeCall_dict_1 _) F.entry_dict_init (kt_code_dict_new _ ⟨rfl,rfl⟩) ?_
  rintro obj s₁ ⟨rfl,rfl⟩
  have hnew:(s.heap.push { cls := .type "dict",data := .dict #[] }).DictOf knd s.heap.objs.size [] := Heap.DictOf.new s.heap
  refine ⟨hnew.typeIs,F.args_dict_init_2 _ _,?_⟩
  obtain ⟨f0,hz0⟩ := hz0
  have hz1:(s.heap.push { cls := .type "dict",data := .dict #[] }).get? z = some _ := Heap.get?_push_of_some _ hz0
  have hdf:s.heap.objs.size ∉ [z,TI,TO,i1,i2] ++ fp1 ++ fp2 := fun m => Nat.lt_irrefl _ (hlt _ m)
  refine wpAny_bind ?_
  unfold Builtin.Dict.selfAndRest
  refine wpAny_bind (wpAny_notOrdered_dict hnew.typeIs ?_)
  refine wpAny_pure ?_
  show wpAny _ _ (Builtin.Dict.updateFrom "dict.__init__" s.heap.objs.size (.ref z) [] .none) _ _ _
  unfold Builtin.Dict.updateFrom
  refine wpAny_bind (wpAny_typeOf (T := "zip") ⟨_,hz1,rfl⟩ ?_)
  rw [if_pos (by decide)]
  refine wpAny_bind (QL (A := A.in1.in1) hz1 hh fun h1 tk k1 => ?_)
  rw [if_pos (by rfl)]
  refine wpAny_bind (wpAny_rule ?_)
  have kk:∀ c u,s.heap.get? c = some u → h1.get? c = some u := fun c u q => k1 _ _ (Heap.get?_push_of_some _ q)
  refine wpAny_bind (wpAny_pyIter_zip (kk _ _ hz0) ?_)
  obtain ⟨od,es,ep,hod,rd⟩ := hnew
  refine wpAny_pure ⟨plainId_quiet xn _,zcQ (knd := knd) (A := A.in1) D D1 D2 hn hdf more 0 _ [] (by rw [hlen]; omega) ⟨od,es,ep,k1 _ _ hod,rd⟩ ?_ (fun j kv hj => ?_) (by simpa using hz) fun h' tk' hd' k' => ⟨rfl,?_⟩⟩
  · obtain ⟨f0,f1,a,b,gz,gf,gTI,gTO,g1,g2⟩ := hst
    refine ⟨f0,f1,a,b,kk _ _ gz,?_,kk _ _ gTI,kk _ _ gTO,D1.frame _ _ _ g1 fun c hc o e => kk _ _ e,D2.frame _ _ _ g2 fun c hc o e => kk _ _ e⟩
    rcases gf with g | ⟨t,o,e1,e2,e3⟩
    · exact .inl g
    · exact .inr ⟨t,o,e1,kk _ _ e2,e3⟩
  · have := hp j kv hj
    rwa [show (0 + j:Nat) = j by omega]
  · refine h h' tk' hd' fun c u hc q => k' c u (fun m => ?_) (kk c u q)
    rcases List.mem_cons.1 m with e | m
    · exact Nat.lt_irrefl _ (by have := Heap.lt_size q; rw [e] at this; exact this)
    · exact hc m
theorem zcS {E:Value → Shared → Prop} {s:Shared} (hh:A.handled = none) {l1 l2:Addr} {xs ys:Array Value} (hl1:s.heap.IsList l1 xs) (hl2:s.heap.IsList l2 ys) {Q:Value → Shared → Prop} {more:List (K × Value)} (hlen:more.length = min xs.size ys.size)
    (hp:∀ (j:Nat) kv,more[j]? = some kv → (∀ x,xs[j]? = some x → knd.is kv.1 x = true) ∧ ∀ y,ys[j]? = some y → y = kv.2) (hz:more.length ≤ sizeLine)
    (h:∀ h' tk (S:Addr),s.heap.objs.size ≤ S → h'.DictOf knd S (merged [] more) → (∀ c o,s.heap.get? c = some o → h'.get? c = some o) → Q (.ref S) { s with heap := h',toks := tk }) :
    wpAny (model prog w) A (call (.type "zip") [.ref l1,.ref l2]) (fun v s₁ => wpAny (model prog w) A (call (.type "dict") [v]) Q E s₁) E s := by
  refine callType_new F.called_zip (by decide) (F.typeCall_zip_2 _ _) (F.newCall_zip_2 _ _) (fun obj => F.args_object_init_3 obj _ _) F.entry_zip_new
    (meets_zip_new l1 l2 xs ys) ⟨hl1,hl2,?_⟩
  have z1:(zipH1 s.heap l1).objs.size = s.heap.objs.size + 1 := Heap.size_push ..
  have z2:(zipH2 s.heap l1 l2).objs.size = s.heap.objs.size + 2 := by rw [Heap.size_push,z1]
  have z3:(zipH3 s.heap l1 l2).objs.size = s.heap.objs.size + 3 := by rw [Heap.size_push,z2]
  have z4:(zipH4 s.heap l1 l2).objs.size = s.heap.objs.size + 4 := by rw [Heap.size_push,z3]
  have z5:(zipH5 s.heap l1 l2).objs.size = s.heap.objs.size + 5 := by rw [Heap.size_push,z4]
  have g5:(zipH5 s.heap l1 l2).get? (zipH4 s.heap l1 l2).objs.size = some _ := Heap.get?_push_size _ rfl
  have g4:(zipH5 s.heap l1 l2).get? (zipH3 s.heap l1 l2).objs.size = some _ := Heap.get?_push_of_some _ (Heap.get?_push_size _ rfl)
  have g3:(zipH5 s.heap l1 l2).get? (zipH2 s.heap l1 l2).objs.size = some _ := Heap.get?_push_of_some _ (Heap.get?_push_of_some _ (Heap.get?_push_size _ rfl))
  have g2:(zipH5 s.heap l1 l2).get? (zipH1 s.heap l1).objs.size = some _ := Heap.get?_push_of_some _ (Heap.get?_push_of_some _ (Heap.get?_push_of_some _ (Heap.get?_push_size _ rfl)))
  have g1:(zipH5 s.heap l1 l2).get? s.heap.objs.size = some _ := Heap.get?_push_of_some _ (Heap.get?_push_of_some _ (Heap.get?_push_of_some _ (Heap.get?_push_of_some _ (Heap.get?_push_size _ rfl))))
  have kp:∀ c o,s.heap.get? c = some o → (zipH5 s.heap l1 l2).get? c = some o := fun c o e => Heap.get?_push_of_some _ (Heap.get?_push_of_some _ (Heap.get?_push_of_some _ (Heap.get?_push_of_some _ (Heap.get?_push_of_some _ e))))
  show _ ∧ _
  rw [z2,z3,z4] at g5
  rw [z1,z2] at g3
  rw [z3] at g4
  rw [z1] at g2
  rw [z4]
  refine ⟨⟨_,g5,rfl⟩,?_⟩
  have lt1:l1 < s.heap.objs.size := by obtain ⟨_,e,_⟩ := hl1; exact Heap.lt_size e
  have lt2:l2 < s.heap.objs.size := by obtain ⟨_,e,_⟩ := hl2; exact Heap.lt_size e
  refine zcR (K := K) (knd := knd) hh (z := s.heap.objs.size + 4) (TI := s.heap.objs.size + 2) (TO := s.heap.objs.size + 3) (i1 := s.heap.objs.size) (i2 := s.heap.objs.size + 1) (s := { s with heap := zipH5 s.heap l1 l2 }) ?_
    (Draws.list (A := A.in1.in1.in1) hh s.heap.objs.size l1 (Nat.ne_of_lt lt1) xs) (Draws.list (A := A.in1.in1.in1) hh (s.heap.objs.size + 1) l2 (Nat.ne_of_lt (Nat.lt_trans lt2 (Nat.lt_succ_self _))) ys) rfl ?_ ⟨_,g5⟩ ⟨_,_,_,_,g5,.inl ⟨rfl,rfl⟩,g3,g4,⟨⟨_,g1,rfl,rfl⟩,hl1.at fun o e => kp l1 o e⟩,⟨⟨_,g2,rfl,rfl⟩,hl2.at fun o e => kp l2 o e⟩⟩ hlen hp hz ?_
  · have h10:l1 ≠ (s.heap.objs.size:Nat) := Nat.ne_of_lt lt1
    have h11:l1 ≠ (s.heap.objs.size + 1:Nat) := Nat.ne_of_lt (Nat.lt_of_lt_of_le lt1 (by omega))
    have h13:l1 ≠ (s.heap.objs.size + 3:Nat) := Nat.ne_of_lt (Nat.lt_of_lt_of_le lt1 (by omega))
    have h14:l1 ≠ (s.heap.objs.size + 4:Nat) := Nat.ne_of_lt (Nat.lt_of_lt_of_le lt1 (by omega))
    have h20:l2 ≠ (s.heap.objs.size:Nat) := Nat.ne_of_lt lt2
    have h21:l2 ≠ (s.heap.objs.size + 1:Nat) := Nat.ne_of_lt (Nat.lt_of_lt_of_le lt2 (by omega))
    have h23:l2 ≠ (s.heap.objs.size + 3:Nat) := Nat.ne_of_lt (Nat.lt_of_lt_of_le lt2 (by omega))
    have h24:l2 ≠ (s.heap.objs.size + 4:Nat) := Nat.ne_of_lt (Nat.lt_of_lt_of_le lt2 (by omega))
    exact ⟨by simp,by simp,by simp,by simp,by simp,by simp,by simp,by simp,by simp,by simp,by simp [Ne.symm h14],by simp [Ne.symm h24],by simp [Ne.symm h13],by simp [Ne.symm h23],by simp [Ne.symm h20],by simp [Ne.symm h11]⟩
  · intro b hb
    show b < (zipH5 s.heap l1 l2).objs.size
    rw [z5]
    simp only [List.mem_append,List.mem_cons,List.not_mem_nil,or_false] at hb
    rcases hb with ((q | q | q | q | q) | q | q) | q | q <;> rw [q]
    · exact Nat.lt_succ_self _
    · exact Nat.add_lt_add_left (by decide) _
    · exact Nat.add_lt_add_left (by decide) _
    · exact Nat.lt_add_of_pos_right (by decide)
    · exact Nat.add_lt_add_left (by decide) _
    · exact Nat.lt_add_of_pos_right (by decide)
    · exact Nat.lt_add_right _ lt1
    · exact Nat.add_lt_add_left (by decide) _
    · exact Nat.lt_add_right _ lt2
  · intro h' tk hd hk
    have e5:(Shared.heap { s with heap := zipH5 s.heap l1 l2 }).objs.size = s.heap.objs.size + 5 := z5
    rw [e5] at hd ⊢
    refine h h' tk _ (Nat.le_add_right _ _) hd fun b o e => hk b o (fun m => ?_) (kp b o e)
    have lt := Heap.lt_size e
    simp only [List.mem_cons,List.not_mem_nil,or_false] at m
    rcases m with q | q | q | q <;> rw [q] at lt
    · exact absurd lt (Nat.not_lt.2 (Nat.le_add_right _ _))
    · exact absurd lt (Nat.not_lt.2 (Nat.le_add_right _ _))
    · exact absurd lt (Nat.lt_irrefl _)
    · exact absurd lt (Nat.not_lt.2 (Nat.le_add_right _ _))
end
end PySem
namespace L2
open PySem PySem.Spec PyProof.Rows
noncomputable def uA {α:Type} (ks:List Str) (ys:List α):List (Key × α) := List.zipWith (fun k y => ((Sum.inr k:Key),y)) ks ys
noncomputable def tDZ (K:PySem.W.Frag) (ta:TA):TE := fun σ H Q => ta σ H fun vs H1 => ∃ a b ks ys,vs = [.ref a,.ref b] ∧ SqL K H1 a (ks.map V.str) ∧ SqL K H1 b ys ∧ ks.length ≤ 1000 ∧ ∀ p,H1 p = none → Q (.ref p) (upd H1 p (.dK (xG [] (uA ks ys))))
theorem zaE {α:Type}:∀ (ks:List Str) (ys:List α),(uA ks ys).length = min ks.length ys.length := fun ks ys => by unfold uA; rw [List.length_zipWith]
theorem Y1 {P:Program} {w:World}:∀ {ks:List Str} {ys:List V} {its jts:List Value},Vals (ks.map V.str) its → Vals ys jts → ∃ ws:List (Key × Value),KV (uA ks ys) ws ∧ ws.length = min its.length jts.length ∧
    ∀ (j:Nat) kv,ws[j]? = some kv → (∀ x,its[j]? = some x → (yP P w).is kv.1 x = true) ∧ ∀ y,jts[j]? = some y → y = kv.2
  | [],ys,its,jts,r1,r2 => by
    cases r1
    exact ⟨[],.nil,by simp,fun j kv h => by simp at h⟩
  | k :: ks,ys,its,jts,r1,r2 => by
    cases r1 with
    | @cons _ x _ xs a b =>
      cases r2 with
      | nil => exact ⟨[],.nil,by simp,fun j kv h => by simp at h⟩
      | @cons y v ys vs c d =>
        obtain ⟨ws,h1,h2,h3⟩ := Y1 (P := P) (w := w) b d
        refine ⟨(Sum.inr k,v) :: ws,.cons ⟨rfl,c⟩ h1,by simp [h2],fun j kv hj => ?_⟩
        cases j with
        | zero =>
          cases hj
          refine ⟨fun z hz => ?_,fun z hz => ?_⟩
          · simp at hz
            subst hz
            exact kP (k := Sum.inr k) a
          · simp at hz
            exact hz.symm
        | succ j =>
          obtain ⟨g1,g2⟩ := h3 j kv (by simpa using hj)
          exact ⟨fun z hz => g1 z (by simpa using hz),fun z hz => g2 z (by simpa using hz)⟩
theorem QM:bootBuiltins "dict" = some (.type "dict") := rfl
section
variable {X:Cx} {K:PySem.W.Frag}
theorem Z4 {a b:Expr} {ta:TA} {p1 p2 q1 q2:Pos} (hK:X.K = K) (hc:X.calm = true) (hl:Gl X "dict") (ml:X.mg "dict" = none) (hg:Gl X "zip") (hm:X.mg "zip" = none) (ha:PA X [a,b] ta)
    (hs:starEach [a,b] X.env = (false,eval a X.env) :: starEach [b] X.env := by rfl) (hs2:(backTo q2 (starEach [b] X.env)).any (·.1) = false := by rfl)
    (he:starEach [.Call (.Name "zip" p2) [a,b] [] q2] X.env = (false,eval (.Call (.Name "zip" p2) [a,b] [] q2) X.env) :: starEach [] X.env := by rfl) (hpl:(backTo q1 (starEach [] X.env)).any (·.1) = false := by rfl)
    (ht:backTo q1 (starEach [.Call (.Name "zip" p2) [a,b] [] q2] X.env) = [(false,eval (.Call (.Name "zip" p2) [a,b] [] q2) X.env)] := by rfl) :
    PE X (.Call (.Name "dict" p1) [.Call (.Name "zip" p2) [a,b] [] q2] [] q1) (tDZ K ta) := by
  subst hK
  intro pins s σ H Q I h
  refine wpAny_Call_Name_kw (vY I hl ml QM ?_)
  refine PyProof.Rows.callWith_type1 (T := "dict") ?_ he hpl
  rw [ht]
  refine Calls.spliced_cons ?_
  refine wpAny_Call_Name_kw (vY I hg hm boot_zip ?_)
  refine PyProof.Rows.callWith_type1 (T := "zip") (thn (ha q2 pins s σ H _ I h) fun us s1 ⟨vs,H1,I1,r1,q1⟩ => ?_) hs hs2
  obtain ⟨a,b,ks,ys,e,qa,qb,kl,q⟩ := q1
  subst e
  cases r1 with
  | cons r rr =>
    cases rr with
    | cons r' rr =>
      cases rr
      cases r
      cases r'
      obtain ⟨its,rv,p,_⟩ := I1.list qa
      obtain ⟨jts,rv2,p2,_⟩ := I1.list qb
      have ln := rv.length
      rw [List.length_map] at ln
      obtain ⟨ws,w1,w2,w3⟩ := Y1 (P := X.prog) (w := X.w) rv rv2
      refine wpAny_mono (zcS (knd := yP X.prog X.w) (I1.ok.hd hc) p.isList p2.isList (more := ws) (by simpa using w2) (fun j kv hj => ?_) (by rw [sizeLine_eq]; omega) fun h' tk S hS dd kk => ?_) (fun v s2 z => Calls.spliced_nil z) fun _ _ z => z
      · obtain ⟨g1,g2⟩ := w3 j kv hj
        exact ⟨fun x hx => g1 x (by simpa using hx),fun y hy => g2 y (by simpa using hy)⟩
      · refine ⟨.ref S,_,I1.laid (a := S) (o := .dK (xG [] (uA ks ys))) (t' := tk) kk hS ?_,rfl,q _ (I1.hok.fresh hS)⟩
        have hz2:(xG [] (uA ks ys)).length ≤ sizeLine := by
          have h1 := x6 (uA ks ys) []
          rw [List.length_nil,zaE] at h1
          rw [sizeLine_eq]; omega
        exact j8 hz2 (beq_eq_false_iff_ne.mpr (Ne.symm (Nat.ne_of_lt (Nat.lt_of_lt_of_le I1.big hS)))) (KV.merge w1 .nil) dd
end
section
variable {K:PySem.W.Frag}
noncomputable def wDZ (T:TAW):TEW := fun ρ O R => T ρ O fun ws O1 => ∃ w1 w2 ks us,ws = [w1,w2] ∧ yd O1 w1 = some (ks.map fun k => W.d (.str k)) ∧ yd O1 w2 = some us ∧ ks.length ≤ 1000 ∧ ∀ p,O1 p = none → R (.own p) (updO O1 p (.dK (vj [] (uA ks us))))
theorem Vo {Γ:Gh}:∀ {ks:List Str} {xs:List V},relWs K Γ (ks.map fun k => W.d (.str k)) xs → xs = ks.map V.str
  | [],_,h => by cases h; rfl
  | k :: ks,_,h => by
    cases h with
    | cons a b => rw [show _ = V.str k from a,Vo b]; rfl
theorem Vp {Γ:Gh}:∀ {ks:List Str} {us:List W} {ys:List V},relWs K Γ us ys → yZ K Γ (uA ks us) (uA ks ys)
  | [],us,ys,h => .nil
  | k :: ks,us,ys,h => by
    cases h with
    | nil => exact .nil
    | cons a b => exact .cons ⟨rfl,a⟩ (Vp (ks := ks) b)
theorem J4 {t:TA} {T:TAW} (h:xM K t T):RefE K (tDZ K t) (wDZ T) := by
  intro Γ O H ρ σ S r Q R hT k
  refine h _ _ _ _ _ S r _ _ hT fun Γ1 O1 H1 ws vs l1 S1 rs h1 => ?_
  obtain ⟨w1,w2,ks,us,rfl,e1,e2,kl,h1⟩ := h1
  cases rs with
  | cons rx t =>
    cases t with
    | cons ry t =>
      cases t
      obtain ⟨a,xs,rfl,q1,q2⟩ := xo S1 rx e1
      obtain ⟨b,ys,rfl,q3,q4⟩ := xo S1 ry e2
      cases Vo q2
      refine ⟨a,b,ks,ys,rfl,q1,q3,kl,fun p hp => ?_⟩
      have S' := S1.newO hp (o := .dK (xG [] (uA ks ys))) (oo := .dK _) (by intro _ h; cases h) ⟨_,zn,uu (Vp (ks := ks) q4) .nil⟩
      exact k _ _ _ _ _ l1 S' x9 (h1 p (S1.free hp).2.1)
end
end L2
namespace L2
open PySem PySem.Spec PyProof.Rows
section
variable {K:PySem.W.Frag}
noncomputable def zeD:W → List W → OM → WK → Prop := fun x ws O R => ∃ a us y,x = .own a ∧ ws = [] ∧ O a = some (.lst us) ∧ us[us.length - 1]? = some y ∧ R y (updO O a (.lst us.dropLast))
theorem Paired.dropLastP {α β:Type} {F:α → β → Prop} {xs:List α} {ys:List β} (r:Paired F xs ys):Paired F xs.dropLast ys.dropLast := by
  have e:ys.length = xs.length := (Paired.length r).symm
  rw [List.dropLast_eq_take,List.dropLast_eq_take,e]
  exact Paired.takeP r _
theorem Paired.eraseP {α β:Type} {F:α → β → Prop} {xs:List α} {ys:List β} (r:Paired F xs ys):∀ k,Paired F (xs.eraseIdx k) (ys.eraseIdx k) := by
  induction r with
  | nil => intro k; exact .nil
  | cons h t ih =>
    intro k
    cases k with
    | zero => exact t
    | succ k => exact .cons h (ih k)
theorem zfp {T:String}:RefM K T zdz zeD := by
  rintro Γ O H x v xs vs S rx rs Q R ⟨a,us,y,rfl,rfl,ho,hy,h⟩ k
  cases rs
  cases (show v = .ref a from rx)
  obtain ⟨_,vs,q1,q2⟩ := S.o _ _ ho
  obtain ⟨u,hu,ru⟩ := Paired.getP q2 hy
  rw [Paired.length q2] at hu
  exact ⟨a,vs,u,rfl,rfl,q1,hu,k _ _ _ _ _ (Le.refl _) (S.put (oo := .lst _) ho (by intro _ h; cases h) (by intro _ h; cases h) ⟨_,zn,Paired.dropLastP q2⟩) ru h⟩
noncomputable def J5:W → List W → OM → WK → Prop := fun x ws O R => ∃ a us y,∃ n:Nat,x = .own a ∧ ws = [.d (.int n)] ∧ O a = some (.lst us) ∧ us[n]? = some y ∧ n ≤ 1000 ∧ R y (updO O a (.lst (us.eraseIdx n)))
theorem zcT {T:String}:RefM K T Ju J5 := by
  rintro Γ O H x v xs vs S rx rs Q R ⟨a,us,y,n,rfl,rfl,ho,hy,hn,h⟩ k
  cases rs with
  | cons rn t =>
    cases t
    cases (show v = .ref a from rx)
    obtain ⟨_,vs,q1,q2⟩ := S.o _ _ ho
    obtain ⟨u,hu,ru⟩ := Paired.getP q2 hy
    have hlt:n < vs.length := (List.getElem?_eq_some_iff.mp hu).1
    refine ⟨a,vs,n,n,u,rfl,by rw [show _ = V.int n from rn],q1,by omega,by omega,?_,hu,k _ _ _ _ _ (Le.refl _) (S.put (oo := .lst _) ho (by intro _ h; cases h) (by intro _ h; cases h) ⟨_,zn,Paired.eraseP q2 n⟩) ru h⟩
    unfold seqIndex?
    have h1:¬ ((n:Int) < 0) := by omega
    have h2:¬ ((n:Int) ≥ (vs.length:Int)) := by omega
    simp [h1,h2,hlt]
noncomputable def zbI:List W → OM → WK → Prop := fun xs O R => ∃ i:Int,xs = [.d (.int i)] ∧ -1000000 ≤ i ∧ i ≤ 1000000 ∧ R (.d (.str (toString i))) O
theorem zeE:RefC K zbH zbI := by
  rintro Γ O H xs vs S rs Q R ⟨i,rfl,h0,h1,h⟩ k
  cases rs with
  | cons rx t =>
    cases t
    refine ⟨i,by rw [show _ = V.int i from rx],?_,k _ _ _ _ _ (Le.refl _) S uO h⟩
    have e := Z1 (i := (i.natAbs:Int)) (by omega) (by omega)
    rwa [Int.natAbs_natCast] at e
noncomputable def J6 (K:PySem.W.Frag):List V → Hp → VK → Prop := za9 K
theorem UQ {X:Cx} (h:X.K = K) (hg:X.A.guards = some []) (hu:X.A.units + 64 < cLine):y9 X (.builtin "repr") (J6 K) := by subst h; exact Qj hg hu
noncomputable def zbJ:List W → OM → WK → Prop := fun xs O R => ∃ w d,xs = [w] ∧ ug O w = some d ∧ (isDisplay d && !d.hasDict) = true ∧ d.showable = true ∧ d.depth ≤ 60 ∧ d.shown.length ≤ sizeLine ∧ R (.d (.str d.shown)) O
theorem zeF:RefC K (J6 K) zbJ := by
  rintro Γ O H xs vs S rs Q R ⟨w,d,rfl,e,h1,h2,h3,h4,h⟩ k
  cases rs with
  | cons rx t =>
    cases t
    exact ⟨d,_,rfl,uV S rx e,h1,h2,h3,h4,k _ _ _ _ _ (Le.refl _) S uO h⟩
theorem zcU {X:Cx} (hc:X.calm = true):y9 X (.builtin "sorted") Qk := XX hc
noncomputable def zbK:List W → OM → WK → Prop := fun xs O R => ∃ a kvs,∃ ns:List Int,xs = [.own a] ∧ O a = some (.dK kvs) ∧ kvs.map (·.1) = ns.map (Sum.inl:Int → Key) ∧ ns.length < 64 ∧ R (.d (.list ((srt ns).map .int))) O
theorem zeG:RefC K Qk zbK := by
  rintro Γ O H xs vs S rs Q R ⟨a,kvs,ns,rfl,ho,hk,hl,h⟩ k
  cases rs with
  | cons rx t =>
    cases t
    obtain ⟨_,us,q1,q2⟩ := S.o _ _ ho
    refine ⟨a,us,ns,by rw [show _ = V.ref a from rx],q1,by rw [← QB q2]; exact hk,hl,fun p hp => ?_⟩
    obtain ⟨Γ',l',S',r'⟩ := qY S (jy (srt ns)) hp
    exact k _ _ _ _ _ l' S' r' h
end
end L2
namespace L2
open PySem PySem.Spec PyProof.Rows
theorem qw {T1 T2 U:TSW} {D:EndsW} {ρ:WS} {O:OM} (J:WS → OM → Prop) (ht:∀ R:WS → OM → Prop,(∀ ρ' O',J ρ' O' → R ρ' O') → x5 T1 T2 { D with nx := R } ρ O) (hu:∀ ρ' O',J ρ' O' → U D ρ' O'):x5 T1 (x5 T2 U) D ρ O := ht (U D) hu
end L2
namespace L2
open PySem PySem.Spec PyProof.Rows
noncomputable def qG (i:Int):Str := toString i
structure MA where
  sp:Addr
  kq:Addr
  q:Addr
noncomputable def mW (A:MA) (S:ST):List (Key × W) := [(Sum.inr "wide",.d (.int S.w)),(Sum.inr "high",.d (.int S.h)),(Sum.inr "row",.d (.int S.row)),(Sum.inr "column",.d (.int S.col)),(Sum.inr "late",.d (.bool S.late)),(Sum.inr "ink",.d (.int S.ink)),(Sum.inr "wrap",.d (.bool S.wrap)),(Sum.inr "insert",.d (.bool S.putting)),(Sum.inr "home",.d (.bool S.home)),(Sum.inr "top",.d (.int S.top)),(Sum.inr "bottom",.d (.int S.bottom)),(Sum.inr "left",.d (.int S.left)),(Sum.inr "right",.d (.int S.right)),(Sum.inr "stops",.own A.sp),(Sum.inr "kept",.own A.kq)]
section
variable {A:MA} {S:ST}
theorem yj:(mW A S).length = 15 := rfl
theorem zO:xY (mW A S) (Sum.inr (Str.ofString "wide")) = some (W.d (.int S.w)) := rfl
theorem zP:xY (mW A S) (Sum.inr (Str.ofString "high")) = some (W.d (.int S.h)) := rfl
theorem yk:xY (mW A S) (Sum.inr (Str.ofString "row")) = some (W.d (.int S.row)) := rfl
theorem zu:xY (mW A S) (Sum.inr (Str.ofString "column")) = some (W.d (.int S.col)) := rfl
theorem zQ:xY (mW A S) (Sum.inr (Str.ofString "late")) = some (W.d (.bool S.late)) := rfl
theorem yl:xY (mW A S) (Sum.inr (Str.ofString "ink")) = some (W.d (.int S.ink)) := rfl
theorem zR:xY (mW A S) (Sum.inr (Str.ofString "wrap")) = some (W.d (.bool S.wrap)) := rfl
theorem zv:xY (mW A S) (Sum.inr (Str.ofString "insert")) = some (W.d (.bool S.putting)) := rfl
theorem zS:xY (mW A S) (Sum.inr (Str.ofString "home")) = some (W.d (.bool S.home)) := rfl
theorem ym:xY (mW A S) (Sum.inr (Str.ofString "top")) = some (W.d (.int S.top)) := rfl
theorem zw:xY (mW A S) (Sum.inr (Str.ofString "bottom")) = some (W.d (.int S.bottom)) := rfl
theorem zT:xY (mW A S) (Sum.inr (Str.ofString "left")) = some (W.d (.int S.left)) := rfl
theorem zE:xY (mW A S) (Sum.inr (Str.ofString "right")) = some (W.d (.int S.right)) := rfl
theorem zF:xY (mW A S) (Sum.inr (Str.ofString "stops")) = some (W.own A.sp) := rfl
theorem zU:xY (mW A S) (Sum.inr (Str.ofString "kept")) = some (W.own A.kq) := rfl
theorem yn {x:Int}:xE (mW A S) (Sum.inr (Str.ofString "row")) (.d (.int x)) = mW A { S with row := x } := rfl
theorem zx {x:Int}:xE (mW A S) (Sum.inr (Str.ofString "column")) (.d (.int x)) = mW A { S with col := x } := rfl
theorem zV {x:Bool}:xE (mW A S) (Sum.inr (Str.ofString "late")) (.d (.bool x)) = mW A { S with late := x } := rfl
theorem yo {x:Int}:xE (mW A S) (Sum.inr (Str.ofString "ink")) (.d (.int x)) = mW A { S with ink := x } := rfl
theorem zW {x:Bool}:xE (mW A S) (Sum.inr (Str.ofString "wrap")) (.d (.bool x)) = mW A { S with wrap := x } := rfl
theorem zy {x:Bool}:xE (mW A S) (Sum.inr (Str.ofString "insert")) (.d (.bool x)) = mW A { S with putting := x } := rfl
theorem zX {x:Bool}:xE (mW A S) (Sum.inr (Str.ofString "home")) (.d (.bool x)) = mW A { S with home := x } := rfl
theorem yp {x:Int}:xE (mW A S) (Sum.inr (Str.ofString "top")) (.d (.int x)) = mW A { S with top := x } := rfl
theorem zz {x:Int}:xE (mW A S) (Sum.inr (Str.ofString "bottom")) (.d (.int x)) = mW A { S with bottom := x } := rfl
theorem zY {x:Int}:xE (mW A S) (Sum.inr (Str.ofString "left")) (.d (.int x)) = mW A { S with left := x } := rfl
theorem zG {x:Int}:xE (mW A S) (Sum.inr (Str.ofString "right")) (.d (.int x)) = mW A { S with right := x } := rfl
theorem zH {r:Addr}:xE (mW A S) (Sum.inr (Str.ofString "stops")) (.own r) = mW { A with sp := r } S := rfl
theorem zZ {r:Addr}:xE (mW A S) (Sum.inr (Str.ofString "kept")) (.own r) = mW { A with kq := r } S := rfl
end
noncomputable def kpL (k:KP):PyData := .list [.int k.row,.int k.col,.int k.ink,.bool k.home,.bool k.wrap,.bool k.putting,.bool k.late]
structure MAt (O:OM) (d:Addr) (A:MA) (S:ST):Prop where
  d:O d = some (.dK (mW A S))
  sp:O A.sp = some (.lst ((S.stops.map .int).map .d))
  kq:O A.kq = some (.lst ((S.kept.map kpL).map .d))
noncomputable def ButO (O O':OM) (xs:List Addr):Prop := ∀ b,b ∉ xs → O b ≠ none → O' b = O b
section
variable {O O' O1:OM} {C x dx p st kp d:Addr} {A:MA} {S S' S1:ST} {xs:List Addr}
theorem ButO.refl:ButO O O xs := fun _ _ _ => rfl
theorem ButO.trans (a:ButO O O1 xs) (b:ButO O1 O' xs):ButO O O' xs := fun c h1 h2 => by
  have e := a c h1 h2
  rw [b c h1 (by rw [e]; exact h2),e]
theorem ButO.upd {o:OO} {a:Addr} (h:a ∈ xs):ButO O (updO O a o) xs := fun b hb _ => zf fun e => hb (by rw [e]; exact h)
theorem ButO.new {o:OO} {a:Addr} (h:O a = none):ButO O (updO O a o) xs := fun b _ hb => zf fun e => hb (by rw [e]; exact h)
theorem ButO.old (h:ButO O O' xs):∀ {b:Addr} {o:OO},O b = some o → b ∉ xs → O' b = some o := fun {b o} e hb => by rw [h b hb (by rw [e]; simp),e]
theorem ButO.mono {ys:List Addr} (h:ButO O O' xs) (m:∀ b ∈ xs,b ∈ ys):ButO O O' ys := fun b hb h0 => h b (fun z => hb (m b z)) h0
theorem But.butO (h:But O O' x p):ButO O O' [x,p] := fun b hb _ => h b (fun e => hb (by simp [e])) (fun e => hb (by simp [e]))
theorem Old.butO (h:Old O O'):ButO O O' xs := fun b _ hb => h b hb
theorem MAt.ds (m:MAt O d A S):d ≠ A.sp := neW m.d m.sp (by intro h; cases h)
theorem MAt.dk (m:MAt O d A S):d ≠ A.kq := neW m.d m.kq (by intro h; cases h)
theorem MAt.fld (m:MAt O d A S) (hs:S'.stops = S.stops := by rfl) (hk:S'.kept = S.kept := by rfl):MAt (updO O d (.dK (mW A S'))) d A S' :=
  ⟨ze,by rw [zf (Ne.symm m.ds),hs]; exact m.sp,by rw [zf (Ne.symm m.dk),hk]; exact m.kq⟩
theorem MAt.butO (m:MAt O d A S) (h:ButO O O' xs) (h1:d ∉ xs) (h2:A.sp ∉ xs) (h3:A.kq ∉ xs):MAt O' d A S :=
  ⟨h.old m.d h1,h.old m.sp h2,h.old m.kq h3⟩
theorem StAt.butO (s:StAt O C x dx p st kp S) (h:ButO O O' xs) (h1:x ∉ xs) (h2:p ∉ xs) (h3:st ∉ xs) (h4:kp ∉ xs):StAt O' C x dx p st kp S :=
  ⟨h.old s.x h1,h.old s.p h2,h.old s.st h3,h.old s.kp h4⟩
structure Tw (O:OM) (C x dx p st kp d:Addr) (A:MA) (S S':ST):Prop where
  s:StAt O C x dx p st kp S
  m:MAt O d A S'
  ds:d ≠ st
  ak:A.sp ≠ kp
  bk:A.kq ≠ kp
  ab:A.sp ≠ A.kq
theorem Tw.st' (t:Tw O C x dx p st kp d A S S') (h:StAt O' C x dx p st kp S1) (b:ButO O O' [x,p,st,kp]):Tw O' C x dx p st kp d A S1 S' := by
  refine ⟨h,t.m.butO b ?_ ?_ ?_,t.ds,t.ak,t.bk,t.ab⟩
  · simp only [List.mem_cons,List.not_mem_nil,or_false,not_or]
    exact ⟨neW t.m.d t.s.x (by intro h; cases h),neW t.m.d t.s.p (by intro h; cases h),t.ds,neW t.m.d t.s.kp (by intro h; cases h)⟩
  · simp only [List.mem_cons,List.not_mem_nil,or_false,not_or]
    exact ⟨neW t.m.sp t.s.x (by intro h; cases h),neW t.m.sp t.s.p (by intro h; cases h),neW t.m.sp t.s.st (by intro h; cases h),t.ak⟩
  · simp only [List.mem_cons,List.not_mem_nil,or_false,not_or]
    exact ⟨neW t.m.kq t.s.x (by intro h; cases h),neW t.m.kq t.s.p (by intro h; cases h),neW t.m.kq t.s.st (by intro h; cases h),t.bk⟩
theorem Tw.m' (t:Tw O C x dx p st kp d A S S') (h:MAt O' d A S1) (b:ButO O O' [d,A.kq]):Tw O' C x dx p st kp d A S S1 := by
  refine ⟨t.s.butO b ?_ ?_ ?_ ?_,h,t.ds,t.ak,t.bk,t.ab⟩
  · simp only [List.mem_cons,List.not_mem_nil,or_false,not_or]
    exact ⟨neW t.s.x t.m.d (by intro h; cases h),neW t.s.x t.m.kq (by intro h; cases h)⟩
  · simp only [List.mem_cons,List.not_mem_nil,or_false,not_or]
    exact ⟨neW t.s.p t.m.d (by intro h; cases h),neW t.s.p t.m.kq (by intro h; cases h)⟩
  · simp only [List.mem_cons,List.not_mem_nil,or_false,not_or]
    exact ⟨Ne.symm t.ds,neW t.s.st t.m.kq (by intro h; cases h)⟩
  · simp only [List.mem_cons,List.not_mem_nil,or_false,not_or]
    exact ⟨neW t.s.kp t.m.d (by intro h; cases h),Ne.symm t.bk⟩
theorem Tw.old (t:Tw O C x dx p st kp d A S S') (h:Old O O'):Tw O' C x dx p st kp d A S S' :=
  (t.st' (t.s.butO (h.butO (xs := [])) (by simp) (by simp) (by simp) (by simp)) h.butO)
end
theorem vk:((⟨#[117]⟩:Str) = Str.ofString "u") = True := eq_true (by decide +kernel)
theorem vm:((⟨#[117]⟩:Str) = Str.ofString "d") = False := eq_false (by decide +kernel)
theorem vn:((⟨#[117]⟩:Str) = Str.ofString "l") = False := eq_false (by decide +kernel)
theorem vp:((⟨#[117]⟩:Str) = Str.ofString "r") = False := eq_false (by decide +kernel)
theorem vq:((⟨#[100]⟩:Str) = Str.ofString "u") = False := eq_false (by decide +kernel)
theorem vt:((⟨#[100]⟩:Str) = Str.ofString "d") = True := eq_true (by decide +kernel)
theorem vv:((⟨#[100]⟩:Str) = Str.ofString "l") = False := eq_false (by decide +kernel)
theorem vw:((⟨#[100]⟩:Str) = Str.ofString "r") = False := eq_false (by decide +kernel)
theorem vx:((⟨#[108]⟩:Str) = Str.ofString "u") = False := eq_false (by decide +kernel)
theorem vy:((⟨#[108]⟩:Str) = Str.ofString "d") = False := eq_false (by decide +kernel)
theorem vz:((⟨#[108]⟩:Str) = Str.ofString "l") = True := eq_true (by decide +kernel)
theorem vA:((⟨#[108]⟩:Str) = Str.ofString "r") = False := eq_false (by decide +kernel)
theorem vB:((⟨#[114]⟩:Str) = Str.ofString "u") = False := eq_false (by decide +kernel)
theorem vC:((⟨#[114]⟩:Str) = Str.ofString "d") = False := eq_false (by decide +kernel)
theorem vD:((⟨#[114]⟩:Str) = Str.ofString "l") = False := eq_false (by decide +kernel)
theorem vE:((⟨#[114]⟩:Str) = Str.ofString "r") = True := eq_true (by decide +kernel)
theorem vF:((⟨#[109]⟩:Str) = Str.ofString "m") = True := eq_true (by decide +kernel)
theorem vV:((⟨#[77]⟩:Str) = Str.ofString "m") = False := eq_false (by decide +kernel)
noncomputable def goS (c:Nat) (n:Int) (S:ST):ST :=
  if c = 117 then { S with row := if eT S > S.row - n then eT S else S.row - n } else if c = 100 then { S with row := if eB S < S.row + n then eB S else S.row + n }
  else if c = 108 then { S with col := if eL S > S.col - n then eL S else S.col - n } else if c = 114 then { S with col := if eR S < S.col + n then eR S else S.col + n } else S
noncomputable def uY (S:ST):ST := { S with late := false }
noncomputable def ltr (c:Nat):Prop := c = 117 ∨ c = 100 ∨ c = 108 ∨ c = 114
noncomputable def zaF (C:Addr):SpW := fun ws O R => ∃ c n,ltr c ∧ yW n ∧ sSt C [.d (.str ⟨#[c]⟩),.d n] (fun _ => True) (fun S => uY (goS c (xc n) S)) ws O R
noncomputable def uZ (S:ST):KP := ⟨S.row,S.col,S.late,S.ink,S.wrap,S.putting,S.home⟩
noncomputable def xf (S:ST):ST := { S with kept := (if S.kept.length < 8 then S.kept else S.kept.drop 1) ++ [uZ S] }
noncomputable def yX (S:ST):ST := match S.kept[S.kept.length - 1]? with
  | some k => { S with row := k.row,col := k.col,late := k.late,ink := k.ink,wrap := k.wrap,putting := k.putting,home := k.home,kept := S.kept.dropLast }
  | none => S
noncomputable def qy (C:Addr) (f:ST → ST):SpW := fun ws O R => ∃ x dx p st kp S,ws = [.own x] ∧ StAt O C x dx p st kp S ∧ S.kept.length ≤ 8 ∧ ∀ O',StAt O' C x dx p st kp (f S) → ButO O O' [x,kp] → R (.d .none) O'
noncomputable def plT (S:ST):Str := if S.home = true then qG (S.row + 1 - S.top) ++ Str.ofString ";" ++ qG (S.col + 1 - S.left) else qG (S.row + 1) ++ Str.ofString ";" ++ qG (S.col + 1)
noncomputable def szT (S:ST):Str := qG S.w ++ Str.ofString "x" ++ qG S.h
noncomputable def jf (C:Addr) (f:ST → Str):SpW := fun ws O R => ∃ x dx p st kp S,ws = [.own x] ∧ StAt O C x dx p st kp S ∧ Bds S ∧ R (.d (.str (f S))) O
noncomputable def vd (S:ST):PyData → List Str
  | .none => [plT S]
  | .int i => if i = 0 ∨ i = 1 then [plT S] else if i = 2 then [szT S] else if i = 3 then [jC S.ink.toNat] else []
  | _ => []
noncomputable def xA (S:ST) (ns:List PyData):List Str := (ns.map (vd S)).flatten
noncomputable def Z5 (C:Addr):SpW := fun ws O R => ∃ x dx p st kp S,∃ ns:List PyData,ws = [.own x,.d (.tuple ns)] ∧ ns.length ≤ 6 ∧ (∀ n ∈ ns,yW n) ∧ StAt O C x dx p st kp S ∧ Bds S ∧ ∀ q O',O q = none → O' q = some (.lst (((xA S ns).map .str).map .d)) → Old O O' → R (.own q) O'
noncomputable def kX:SpW := fun ws O R => ∃ d A S,∃ ns:List PyData,ws = [.own d,.d (.tuple ns)] ∧ ns.length ≤ 6 ∧ (∀ n ∈ ns,yW n) ∧ MAt O d A S ∧ Bds S ∧ ∀ q O',O q = none → O' q = some (.lst (((xA S ns).map .str).map .d)) → Old O O' → R (.own q) O'
noncomputable def uk (S:ST):Int := if S.home = true then S.row + 1 - S.top else S.row + 1
noncomputable def uB (S:ST):Int := if S.home = true then S.col + 1 - S.left else S.col + 1
theorem Vq (S:ST):plT S = qG (uk S) ++ Str.ofString ";" ++ qG (uB S) := by
  unfold plT uk uB
  split <;> rfl
theorem xq {c:TTW} {T U:TSW} {D:EndsW} {ρ:WS} {O:OM} (q:Prop) [Decidable q] (hc:∀ R:Bool → OM → Prop,R (decide q) O → c ρ O R) (ht:q → T D ρ O) (hu:¬ q → U D ρ O):X6 c T U D ρ O := by
  refine hc _ ?_
  show if decide q = true then T D ρ O else U D ρ O
  by_cases h:q
  · rw [if_pos (decide_eq_true h)]; exact ht h
  · rw [if_neg (by simp [h])]; exact hu h
theorem zfq {T1 T2 T3 T4 U:TSW} {D:EndsW} {ρ:WS} {O:OM} (J:WS → OM → Prop) (ht:∀ R:WS → OM → Prop,(∀ ρ' O',J ρ' O' → R ρ' O') → x5 T1 (x5 T2 (x5 T3 T4)) { D with nx := R } ρ O) (hu:∀ ρ' O',J ρ' O' → U D ρ' O'):x5 T1 (x5 T2 (x5 T3 (x5 T4 U))) D ρ O := ht (U D) hu
noncomputable def sM (args:List W) (pre:ST → Prop) (f:ST → ST):SpW := fun ws O R => ∃ d A S,ws = .own d :: args ∧ MAt O d A S ∧ pre S ∧ ∀ O',MAt O' d A (f S) → ButO O O' [d] → R (.d .none) O'
noncomputable def u4:SpW := fun ws O R => ∃ r c,yW r ∧ yW c ∧ sM [.d r,.d c] (fun _ => True) (plS r c) ws O R
noncomputable def Yz:SpW := fun ws O R => ∃ d A S,ws = [.own d] ∧ O d = some (.dK (mW A S)) ∧ R (.d (.tuple [.int (eT S),.int (eB S),.int (eL S),.int (eR S)])) O
noncomputable def km:SpW := fun ws O R => ∃ c n,ltr c ∧ yW n ∧ sM [.d (.str ⟨#[c]⟩),.d n] Bds (fun S => uY (goS c (xc n) S)) ws O R
noncomputable def u5 (c:Nat) (a b:PyData) (S:ST):ST := if c = 109 then xJ a b S else ve a b S
noncomputable def jD:SpW := fun ws O R => ∃ c a b,(c = 109 ∨ c = 77) ∧ yW a ∧ yW b ∧ sM [.d (.str ⟨#[c]⟩),.d a,.d b] (fun _ => True) (u5 c a b) ws O R
noncomputable def kY:SpW := fun ws O R => ∃ k on,(k = 1 ∨ k = 2 ∨ k = 3) ∧ sM [.d (.tuple [.int k]),.d (.bool on)] (fun _ => True) (xW k on) ws O R
noncomputable def Vr:SpW := fun ws O R => ∃ ns:List PyData,(∀ n ∈ ns,∃ i:Int,n = .int i ∧ 0 ≤ i ∧ i ≤ 27) ∧ sM [.d (.tuple ns)] (fun S => Ink S.ink) (vN ns) ws O R
noncomputable def qz (S:ST):List PyData := [.int S.w,.int S.h,.int S.row,.int S.col,.bool S.late,.int S.ink,.bool S.wrap,.bool S.putting,.bool S.home,.int S.top,.int S.bottom,.int S.left,.int S.right,.list ((srt S.stops).map .int)]
noncomputable def QN (C:Addr):SpW := fun ws O R => ∃ x dx p st kp S,ws = [.own x] ∧ StAt O C x dx p st kp S ∧ S.stops.length < 64 ∧ R (.d (.list (qz S))) O
noncomputable def zaG:SpW := fun ws O R => ∃ d A S,ws = [.own d] ∧ MAt O d A S ∧ S.stops.length < 64 ∧ R (.d (.list (qz S))) O
noncomputable def Xv (C:Addr):SpW := fun ws O R => ∃ x dx p st kp d A S,ws = [.own x,.own d] ∧ Tw O C x dx p st kp d A S S ∧ Bds S ∧ S.stops.length < 64 ∧ (∀ i ∈ S.stops,Sh i) ∧ R (.d (.bool true)) O
noncomputable def QO:SpW := fun ws O R => ∃ c k:Int,ws = [.d (.int c),.d (.int k)] ∧ 0 ≤ k ∧ k ≤ 1000 ∧ ∀ n:Int,0 ≤ n → n < 100000000 → R (.d (.int n)) O
noncomputable def Vs:SpW := fun ws O R => ∃ c:Int,ws = [.d (.int c)] ∧ 0 ≤ c ∧ ∀ w h:Nat,1 ≤ w → w ≤ 24 → 1 ≤ h → h ≤ 12 → R (.d (.tuple [.int w,.int h])) O
noncomputable def QP:SpW := fun ws O R => ∃ c:Int,ws = [.d (.int c)] ∧ 0 ≤ c ∧ ∀ n,yW n → R (.d n) O
noncomputable def YA:SpW := fun ws O R => ∃ w h:Nat,ws = [.d (.int w),.d (.int h)] ∧ 1 ≤ w ∧ w ≤ 24 ∧ 1 ≤ h ∧ h ≤ 12 ∧ ∀ d sp O',O d = none → O sp = none → d ≠ sp → O' d = some (.dK ((mW ⟨sp,sp,sp⟩ (st0 w h fun _ _ => xB 0)).take 14)) → O' sp = some (.lst (((stopsI w).map .int).map .d)) → Old O O' → R (.own d) O'
theorem kZ {n:PyData} {a b:Int} (h:a ≤ b):a ≤ uW n a b ∧ uW n a b ≤ b := by
  have := qZ (n := n)
  unfold uW
  split <;> omega
theorem Bds.pl {r c:PyData} {S:ST} (h:Bds S):Bds (plS r c S) := by
  have t := h.tb; have t0 := h.t0; have b1 := h.b1; have lr := h.lr; have l0 := h.l0; have rr := h.rr; have w1 := h.w1; have h1 := h.h1
  have a1 := kZ (n := r) t
  have a2 := kZ (n := c) lr
  have a3 := kZ (n := r) (show (0:Int) ≤ S.h - 1 by omega)
  have a4 := kZ (n := c) (show (0:Int) ≤ S.w - 1 by omega)
  unfold plS
  split
  · exact { h with r0 := by simp only; omega,r1 := by simp only; omega,c0 := by simp only; omega,c1 := by simp only; omega }
  · exact { h with r0 := by simp only; omega,r1 := by simp only; omega,c0 := by simp only; omega,c1 := by simp only; omega }
theorem UR {m:PyData} {s:Int}:xm m s ≤ s := by
  unfold xm
  split
  · split
    · omega
    · split <;> omega
  · omega
theorem Bds.rows {a b:PyData} {S:ST} (h:Bds S):Bds (xJ a b S) := by
  have o := qZ (n := a)
  have e := UR (m := b) (s := S.h)
  unfold xJ
  split
  · exact h
  · exact Bds.pl { h with t0 := by simp only; omega,tb := by simp only; omega,b1 := by simp only; omega }
theorem Bds.cols {a b:PyData} {S:ST} (h:Bds S):Bds (ve a b S) := by
  have o := qZ (n := a)
  have e := UR (m := b) (s := S.w)
  unfold ve
  split
  · exact h
  · exact Bds.pl { h with l0 := by simp only; omega,lr := by simp only; omega,rr := by simp only; omega }
theorem Bds.win {c:Nat} {a b:PyData} {S:ST} (h:Bds S):Bds (u5 c a b S) := by unfold u5; split; exact h.rows; exact h.cols
theorem Bds.mode {k:Int} {on:Bool} {S:ST} (h:Bds S):Bds (xW k on S) := by
  unfold xW
  split
  · exact { h with }
  · split
    · exact { h with }
    · split
      · exact Bds.pl { h with }
      · exact h
theorem Bds.dye {ns:List PyData} {S:ST} (h:Bds S):Bds (vN ns S) := by
  have key:∀ (ns:List PyData) (i:Int),Ink i → Ink (ns.foldl xz i) := fun ns => by
    induction ns with
    | nil => exact fun i h => h
    | cons n ns ih => exact fun i h => ih _ (Zs h)
  have := key ns S.ink ⟨h.i0,h.i1⟩
  exact { h with i0 := this.1,i1 := this.2 }
theorem Xw {S:ST} (h:Bds S):0 ≤ eT S ∧ eT S ≤ S.row := by
  have := h.t0; have := h.r0
  unfold eT; split <;> omega
theorem Xx {S:ST} (h:Bds S):S.row ≤ eB S ∧ eB S < S.h := by
  have := h.b1; have := h.r1
  unfold eB; split <;> omega
theorem Xy {S:ST} (h:Bds S):eL S ≤ S.col := by
  have := h.c0
  unfold eL; split <;> omega
theorem Bds.goS {c:Nat} {n:Int} {S:ST} (hn:0 ≤ n) (h:Bds S):Bds (goS c n S) := by
  have t := Xw h; have b := Xx h; have l := Qv h; have l2 := Xy h; have r := Xt h
  have := h.r0; have := h.r1; have := h.c0; have := h.c1
  unfold L2.goS
  repeat' split
  all_goals first | exact h | exact { h with r0 := by simp only; omega,r1 := by simp only; omega } | exact { h with c0 := by simp only; omega,c1 := by simp only; omega }
noncomputable def KOk (S:ST):Prop := S.kept.length ≤ 8 ∧ ∀ k ∈ S.kept,0 ≤ k.row ∧ k.row < S.h ∧ 0 ≤ k.col ∧ k.col < S.w ∧ Ink k.ink
theorem KOk.keep {S:ST} (h:KOk S) (b:Bds S):KOk (xf S) := by
  refine ⟨?_,fun k hk => ?_⟩
  · unfold xf
    simp only [List.length_append,List.length_singleton]
    split
    · omega
    · rw [List.length_drop]; have := h.1; omega
  · unfold xf at hk
    simp only [List.mem_append,List.mem_singleton] at hk
    rcases hk with hk | rfl
    · split at hk
      · exact h.2 k hk
      · exact h.2 k (List.mem_of_mem_drop hk)
    · exact ⟨b.r0,b.r1,b.c0,b.c1,b.i0,b.i1⟩
theorem zcV {S:ST} (h:KOk S) (b:Bds S):KOk (yX S) ∧ Bds (yX S) := by
  unfold yX
  split
  · rename_i k hk
    obtain ⟨r0,r1,c0,c1,i0,i1⟩ := h.2 k (List.mem_of_getElem? hk)
    exact ⟨⟨by simp; have := h.1; omega,fun z hz => h.2 z (List.dropLast_subset _ hz)⟩,{ b with r0 := r0,r1 := r1,c0 := c0,c1 := c1,i0 := i0,i1 := i1 }⟩
  · exact ⟨h,b⟩
theorem zcW {S:ST} (h:Bds S) (hn:∀ i ∈ S.stops,Sh i) (hl:S.stops.length < 64):(PyData.list (qz S)).showable = true ∧ (PyData.list (qz S)).depth ≤ 60 ∧ (PyData.list (qz S)).shown.length ≤ sizeLine := by
  have w1 := h.w1; have w2 := h.w2; have h1 := h.h1; have h2 := h.h2; have r0 := h.r0; have r1 := h.r1; have c0 := h.c0; have c1 := h.c1; have t0 := h.t0; have tb := h.tb; have b1 := h.b1; have l0 := h.l0; have lr := h.lr; have rr := h.rr; have i0 := h.i0; have i1 := h.i1
  unfold qz
  refine zdK ⟨?_,?_⟩ ⟨?_,?_⟩ ⟨?_,?_⟩ ⟨?_,?_⟩ ⟨?_,?_⟩ ⟨?_,?_⟩ ⟨?_,?_⟩ ⟨?_,?_⟩ ⟨?_,?_⟩ (fun i hi => hn i ((List.mergeSort_perm _ _).mem_iff.1 hi)) (by rw [show (srt S.stops).length = S.stops.length from (List.mergeSort_perm _ _).length_eq]; exact hl) <;> omega
structure All20 (O:OM) (C x dx p st kp d:Addr) (A:MA) (S:ST):Prop where
  t:Tw O C x dx p st kp d A S S
  b:Bds S
  k:KOk S
  s:S.stops = stopsI S.w
noncomputable def Far (O O':OM) (x p st kp d:Addr) (A:MA):Prop := ButO O O' [x,p,st,kp,d,A.sp,A.kq]
noncomputable def sDeed20 (C:Addr):SpW := fun ws O R => ∃ x dx p st kp d A S,∃ n:Int,ws = [.own x,.own d,.d (.int n)] ∧ All20 O C x dx p st kp d A S ∧ 0 ≤ n ∧ (S.kept.length < 8 ∨ n % 8 < 7) ∧ ∀ S' O',All20 O' C x dx p st kp d A S' → S'.w = S.w → S'.h = S.h → Far O O' x p st kp d A → R (.d .none) O'
noncomputable def sAbove (C:Addr):SpW := fun ws O R => ∃ x dx p st kp d A S,ws = [.own x,.own d] ∧ All20 O C x dx p st kp d A S ∧ S.kept.length < 8 ∧ ∀ O',Far O O' x p st kp d A → R (.d (.bool true)) O'
section
variable {O O':OM} {C x dx p st kp d:Addr} {A:MA} {S:ST} {r c:PyData} {n:Nat} {k:Int} {on:Bool} {ns:List PyData}
theorem k6:(plS r c S).w = S.w ∧ (plS r c S).h = S.h ∧ (plS r c S).stops = S.stops ∧ (plS r c S).kept = S.kept := by unfold plS; split <;> exact ⟨rfl,rfl,rfl,rfl⟩
theorem vL:(xJ r c S).w = S.w ∧ (xJ r c S).h = S.h ∧ (xJ r c S).stops = S.stops ∧ (xJ r c S).kept = S.kept := by unfold xJ; split; exact ⟨rfl,rfl,rfl,rfl⟩; exact k6
theorem jg:(ve r c S).w = S.w ∧ (ve r c S).h = S.h ∧ (ve r c S).stops = S.stops ∧ (ve r c S).kept = S.kept := by unfold ve; split; exact ⟨rfl,rfl,rfl,rfl⟩; exact k6
theorem ul:(xW k on S).w = S.w ∧ (xW k on S).h = S.h ∧ (xW k on S).stops = S.stops ∧ (xW k on S).kept = S.kept := by
  unfold xW
  split
  · exact ⟨rfl,rfl,rfl,rfl⟩
  · split
    · exact ⟨rfl,rfl,rfl,rfl⟩
    · split
      · exact k6
      · exact ⟨rfl,rfl,rfl,rfl⟩
theorem QQ:(uY (goS n k S)).w = S.w ∧ (uY (goS n k S)).h = S.h ∧ (uY (goS n k S)).stops = S.stops ∧ (uY (goS n k S)).kept = S.kept := by
  unfold goS
  repeat' split
  all_goals exact ⟨rfl,rfl,rfl,rfl⟩
theorem KOk.of {S S':ST} (h:KOk S) (e:S'.w = S.w ∧ S'.h = S.h ∧ S'.stops = S.stops ∧ S'.kept = S.kept):KOk S' := by
  obtain ⟨e1,e2,_,e4⟩ := e
  unfold KOk
  rw [e1,e2,e4]
  exact h
theorem All20.of {S':ST} (a:All20 O C x dx p st kp d A S) (t:Tw O' C x dx p st kp d A S' S') (b:Bds S') (e:S'.w = S.w ∧ S'.h = S.h ∧ S'.stops = S.stops ∧ S'.kept = S.kept):All20 O' C x dx p st kp d A S' :=
  ⟨t,b,a.k.of e,by rw [e.2.2.1,e.1]; exact a.s⟩
theorem Far.refl:Far O O x p st kp d A := ButO.refl
theorem Far.trans {O1:OM} (a:Far O O1 x p st kp d A) (b:Far O1 O' x p st kp d A):Far O O' x p st kp d A := ButO.trans a b
theorem But.far (h:But O O' x p):Far O O' x p st kp d A := h.butO.mono (by intro b hb; simp only [List.mem_cons,List.not_mem_nil,or_false] at hb; rcases hb with rfl | rfl <;> simp)
theorem ButO.farM (h:ButO O O' [d]):Far O O' x p st kp d A := h.mono (by simp)
theorem ButO.farK (h:ButO O O' [x,kp]):Far O O' x p st kp d A := h.mono (by intro b hb; simp only [List.mem_cons,List.not_mem_nil,or_false] at hb; rcases hb with rfl | rfl <;> simp)
theorem Old.far (h:Old O O'):Far O O' x p st kp d A := h.butO
theorem Tw.go' {S' S1:ST} (t:Tw O C x dx p st kp d A S S') (h:StAt O' C x dx p st kp S1) (b:But O O' x p):Tw O' C x dx p st kp d A S1 S' := t.st' h (b.butO.mono (by intro b hb; simp only [List.mem_cons,List.not_mem_nil,or_false] at hb; rcases hb with rfl | rfl <;> simp))
theorem Tw.kp' {S' S1:ST} (t:Tw O C x dx p st kp d A S S') (h:StAt O' C x dx p st kp S1) (b:ButO O O' [x,kp]):Tw O' C x dx p st kp d A S1 S' := t.st' h (b.mono (by intro b hb; simp only [List.mem_cons,List.not_mem_nil,or_false] at hb; rcases hb with rfl | rfl <;> simp))
theorem Tw.mm {S' S1:ST} (t:Tw O C x dx p st kp d A S S') (h:MAt O' d A S1) (b:ButO O O' [d]):Tw O' C x dx p st kp d A S S1 := t.m' h (b.mono (by simp))
end
end L2
namespace L2
open PySem PySem.Spec PyProof.Rows PySem.Builtin PySem.Builtin.Str
section
variable {K:PySem.W.Frag}
end
noncomputable def zgk:Str := ⟨#[58]⟩
noncomputable def nl:Str := ⟨#[10]⟩
noncomputable def zeH (z:Str):Bool := z.cps.toList.all fun c => decide (c ≠ 44 ∧ c ≠ 58 ∧ c ≠ 10 ∧ c < 128)
theorem US:∀ n:_root_.Fin 512,zeH (jC n.val) = true ∧ (jC n.val).length ≤ 40 := by decide +kernel
noncomputable def okW (r:Rw6):Prop := 1 ≤ r.length ∧ r.length ≤ 24 ∧ okR r ∧ ∀ c ∈ r,0 ≤ c.2 ∧ c.2 < 512
end L2
namespace Att
open PySem PySem.W PySem.Calls PyProof.Rows
theorem zaH {i:Int} (x:(WData.int i).layable = true):L2.Bt 1048576 i := by
  have h := (layableW_iff.mp x).2.2
  simp only [WData.weight] at h
  unfold L2.Bt
  by_cases hi:i = 0
  · subst hi
    exact Nat.two_pow_pos _
  · have hn:i.natAbs ≠ 0 := by omega
    simp only [beq_iff_eq,hi,if_false] at h
    exact (Nat.log2_lt hn).mp (by
      have e:(2:Nat) ^ 20 = 1048576 := by decide
      omega)
theorem attB {l:OpenLaw} {n:Nat} {q:Program} {loose:List Str} {XP:(Str → Option Value) → Heap → Prop} {YP:World → Heap → Prop} {d:DefRec}
    (hn:l.most = some n) (hdf:d.params.defaults = [])
    (call:∀ (w:World) (s₀ s₁:Shared) (mg mb:Str → Option Value) (fa a:Addr) (vs:List Value) (ns:List Int),Ground q loose [] XP w s₀ mg mb s₁.heap → YP w s₁.heap → mg d.name = some (.ref fa) →
      s₁.heap.get? a = some { cls := .type "list",data := .seq vs.toArray } → IntsAre vs ns → ns.length ≤ n → (∀ i ∈ ns,L2.Bt 1048576 i) → s₁.gens = #[] →
      codeAny (model l.prog w) callerA (.call (.ref fa) ⟨[.ref a],[]⟩) (fun r s' => r = .ok (.ret (.bool true)) ∧ OldK s₁.heap s'.heap ∧ s'.os = s₁.os ∧ AllBare s'.gens) s₁) :
    WalkO q loose XP YP l.row.toRowW d [] (fun f vs => PySem.call f vs) := by
  intro w s₀ s₁ mg mb G Y fa o pm cd doc dV kV ho hd hcd hD hm hg args vals as hp hy hr hw hl
  cases Dflts.none hD hdf
  cases Dflts.noKw hD
  obtain ⟨a,vs,ns,e1,e2,hb,hi,hk⟩ := Jv hn hp hw
  subst e1
  subst e2
  have bits:∀ i ∈ ns,L2.Bt 1048576 i := fun i h => zaH (layableW_item (layableW_arg hy _ List.mem_cons_self) _ (List.mem_map.2 ⟨i,h,rfl⟩))
  refine enter_call (codeAny_mono (call w s₀ s₁ mg mb fa a vs ns G Y hm hb hi hk bits hg) ?_)
  rintro r s' ⟨rfl,c2,c3,c4⟩
  refine ⟨.inl ⟨.bool true,.bool true,[],rfl,fun _ => rfl,.bool true,Jw l _,fun _ => ⟨List.Pairwise.nil,fun _ z => ?_⟩⟩,c2,c3,c4⟩
  cases z
end Att
namespace L2
open PySem PySem.Spec PyProof.Rows
theorem walkW {l:PySem.W.OpenLaw} {n k:Nat} {q:Program} {loose:List Str} {XP:(Str → Option Value) → Heap → Prop} {YP:World → Heap → Prop} {d:DefRec} {K:Params → PySem.W.Frag} {x:Str} {s:SpW} (hn:l.most = some n) (hn2:n ≤ 1000) (hdf:d.params.defaults = []) (hr:Room k callerA)
    (hY:∀ (w:World) (h:Heap),YP w h → (K w.params).In h)
    (F:∀ (w:World) (mg:Str → Option Value) (fa:Addr) (h:Heap),(K w.params).In h → h.Ns mainGlobals mg → mg d.name = some (.ref fa) →
      ∃ fd:FuncData,(∀ (s:Shared) (u:Value),BindsTo s fd ⟨[u],[]⟩ [(x,u)]) ∧ ∀ base:Heap,(K w.params).In base → base.Ns mainGlobals mg → FnOk l.prog w (K w.params) mg base CX0 k fa fd [x] (zb (K w.params) s))
    (hs:∀ (ns:List Int) (O:OM) (R:WK),ns.length ≤ n → (∀ i ∈ ns,Bt 1048576 i) → (∀ O',R (.d (.bool true)) O') → s [.d (.list (ns.map .int))] O R) :
    PySem.W.WalkO q loose XP YP l.row.toRowW d [] (fun f vs => PySem.call f vs) := by
  refine Att.attB hn hdf fun w s₀ s₁ mg mb fa a vs ns G Y hm hb hi hk bits hg => ?_
  obtain ⟨fd,e1,e2⟩ := F w mg fa _ (hY w _ Y) G.T.g hm
  refine KB (hY w _ Y) G.T.g G.T.b G.T.builtins G.T.nolimit hg hb hi (Nat.le_trans hk (Nat.le_trans hn2 (by decide))) hr e2 e1 (fun H hO hS => ?_) fun _ _ _ z => z
  refine ⟨⟨H,fun _ => none,fun _ => none⟩,fun _ => none,[.d (.list (ns.map .int))],fun w _ => w = .d (.bool true),?_,.cons ⟨a,_,rfl,hS,YW ns⟩ .nil,hs ns _ _ hk bits fun _ => rfl,?_⟩
  · exact ⟨Same.refl _,fun _ _ e => (by cases e),fun _ _ e => (by cases e),fun _ _ e => (by cases e),fun _ _ e => (by cases e),fun _ _ e => (by cases e),fun _ _ e => (by cases e),fun _ _ _ _ _ _ _ e => (by cases e)⟩
  · rintro Γ' O' H' w v _ _ r rfl
    exact r
end L2
namespace K20
open PySem L2
local macro_rules | `(tactic| walk_at "ref") => `(tactic| repeat' (first
  | with_reducible exact zem
  | with_reducible exact zcb
  | with_reducible exact zcc
  | with_reducible exact zdL
  | with_reducible exact zcd
  | with_reducible apply zdM
  | with_reducible exact zfj
  | with_reducible exact zfk
  | with_reducible exact zeZ
  | with_reducible exact ze0
  | with_reducible exact zen
  | with_reducible exact zcF
  | with_reducible exact ze3
  | with_reducible exact zeo
  | with_reducible exact ze5
  | with_reducible exact ze6
  | with_reducible exact ze9
  | with_reducible exact zfV
  | with_reducible exact zec
  | with_reducible apply zdN
  | exact zf7 (fun _ => rfl)
  | exact zfi (fun _ _ => rfl)
  | exact zf6 (fun _ _ => rfl)
  | with_reducible apply zav
  | with_reducible apply KS
  | with_reducible apply KU
  | with_reducible apply zdV
  | with_reducible apply UK
  | with_reducible apply zfl
  | with_reducible apply zcf
  | with_reducible apply zdU
  | with_reducible apply zcg
  | with_reducible apply zao
  | with_reducible exact zcA
  | with_reducible exact zci
  | with_reducible apply zcO
  | with_reducible apply zcw
  | with_reducible apply KY
  | with_reducible exact zd8 rfl
  | with_reducible exact zek
  | with_reducible apply zaA
  | with_reducible apply J4
  | with_reducible apply zcP
  | with_reducible apply zcJ
  | with_reducible apply zck
  | with_reducible apply zcl
  | with_reducible apply zag
  | with_reducible apply JV
  | with_reducible apply JW
  | with_reducible apply K0
  | with_reducible apply KZ
  | with_reducible apply zdY
  | with_reducible exact zeh
  | with_reducible exact zfU
  | with_reducible exact zej
  | with_reducible exact zfm
  | with_reducible exact zeF
  | with_reducible exact zeG
  | with_reducible exact zeE
  | with_reducible exact zfh
  | with_reducible exact zcD
  | with_reducible apply zcx
  | with_reducible apply zak
  | with_reducible apply zcL
  | with_reducible apply zd4
  | with_reducible apply zcy
  | with_reducible apply zcz
  | with_reducible apply zep
  | with_reducible apply zax
  | with_reducible apply zad
  | with_reducible exact RefPs.nil
  | with_reducible apply RefPs.cons
  | with_reducible apply zd5
  | with_reducible apply zct
  | with_reducible exact zfp
  | with_reducible exact zcT
  | with_reducible exact zeu
  | with_reducible exact zae
  | with_reducible exact zaf
  | with_reducible apply zap
  | with_reducible apply zco
  | with_reducible exact K3
  | with_reducible exact JI
  | with_reducible apply K4
  | with_reducible apply zcp
  | with_reducible apply zcq
  | with_reducible apply zcr
  | with_reducible exact K6
  | with_reducible apply zaa
  | with_reducible exact K8
  | with_reducible apply JJ
  | with_reducible apply zab
  | with_reducible apply zcu
  | with_reducible apply zah
  | with_reducible apply zcG
  | with_reducible apply zay
  | with_reducible apply zcs
  | with_reducible apply QJ
  | with_reducible apply JK
  | with_reducible apply zac
  | with_reducible apply JL
  | with_reducible apply JM
  | with_reducible apply JN
  | with_reducible apply JO))
local macro_rules | `(tactic| walk_at "wd") => `(tactic| ((try dsimp only [ki,List.getElem?_cons_zero,List.getElem?_cons_succ,wC,wOp,vI0,vI,wUn,vU,vEq,vNe,QC,Xu,ZY,Vf,KQ,wOr,KR,wIf,Qp,Xk,wCs,ZN,wCB,vI2,zaw,QD,Vg,Vh,x5,Xl,Xm,K2,ze8,X6,K5,Xn,ofV,Zq,List.set,List.map,uy,List.append,List.nil_append,List.cons_append]); try simp [Vj,zey,zbB,zaD,QK,zbI,J0,zet,wDZ,zeD,J5,zbJ,zbK,zbF,ki,wC,wOp,vI0,vI,wUn,vU,vEq,vNe,zdO,zdP,QC,Xu,zdR,zau,zdS,zdT,zea,wIn,zbs,Vf,zbd,zbe,wIf,ZY,KQ,wOr,KR,KW,Qp,Xk,wCs,zdW,zdX,zbp,ZN,zbg,zbf,JZ,zbA,wCB,K1,X4,X5,vI2,zd9,zbr,zaw,Vg,zbm,ZQ,wBM,zd6,Yu,UH,x5,Xl,Xm,K2,X6,K5,Xn,K9,K7,Qq,zd0,zd7,zbq,QD,Vh,zd3,zbh,zd2,zbi,zbj,zbk,zbl,wLc,zef,zeg,zai,zbw,ZP,xa,uy,ofV,vOf,scD,Zi,ut,Qo,xK,Zq,X1,ZL,tyD,isI,xF,and_assoc,wCR,zai,Yw,sI1,sI2,sI3,jv,kW,ja,ZS,ZT,jb,Xq,zp,ze,zt,yV,zaq]))
noncomputable def top (i:Nat):Stmt := PySem.Challenge.pw_signscreen_k20_questions.main.body.getD i (.Pass ⟨0,0,0,0⟩)
local macro_rules | `(tactic| walk_at "sc") => `(tactic| exact ⟨rfl,rfl,rfl,by decide +kernel,rfl,by decide +kernel,by decide +kernel⟩)
noncomputable abbrev jE:Stmt := top 7
theorem Ud:FnScope ["thing","least","most"] ["thing","least","most"] (defScope jE) := by walk_at "sc"
noncomputable abbrev kn:Stmt := top 8
theorem QR:FnScope ["ink"] ["ink"] (defScope kn) := by walk_at "sc"
noncomputable abbrev ko:Stmt := top 9
theorem QS:FnScope ["ink"] ["ink"] (defScope ko) := by walk_at "sc"
noncomputable abbrev jF:Stmt := top 10
theorem Ue:FnScope ["ink"] ["ink"] (defScope jF) := by walk_at "sc"
noncomputable abbrev u6:Stmt := top 11
theorem J7:FnScope ["fore","back","marks"] ["fore","back","marks"] (defScope u6) := by walk_at "sc"
noncomputable abbrev qH:Stmt := top 12
theorem Vt:FnScope ["ink","hue"] ["ink","hue"] (defScope qH) := by walk_at "sc"
noncomputable abbrev qI:Stmt := top 13
theorem Vu:FnScope ["ink","hue"] ["ink","hue"] (defScope qI) := by walk_at "sc"
noncomputable abbrev qJ:Stmt := top 14
theorem Vv:FnScope ["ink","mark"] ["ink","mark"] (defScope qJ) := by walk_at "sc"
noncomputable abbrev um:Stmt := top 15
theorem Z6:FnScope ["ink","mark"] ["ink","mark"] (defScope um) := by walk_at "sc"
noncomputable abbrev uo:Stmt := top 16
theorem Z7:FnScope ["ink"] ["ink"] (defScope uo) := by walk_at "sc"
noncomputable abbrev uL:Stmt := top 17
theorem Zf:FnScope ["ink","words","word","hue"] ["ink"] (defScope uL) := by walk_at "sc"
noncomputable abbrev ku:Stmt := top 21
theorem QT:FnScope ["wide","high"] ["wide","high"] (defScope ku) := by walk_at "sc"
noncomputable abbrev vQ:Stmt := top 22
theorem Vw:FnScope ["wide","ink"] ["wide","ink"] (defScope vQ) := by walk_at "sc"
noncomputable abbrev xR:Stmt := top 23
theorem Zt:FnScope ["wide","high","ink"] ["wide","high","ink"] (defScope xR) := by walk_at "sc"
noncomputable abbrev y7:Stmt := Uz (top 26) 0
theorem Za:FnScope ["self","wide","high"] ["self","wide","high"] (defScope y7) := by walk_at "sc"
noncomputable abbrev xw:Stmt := Uz (top 26) 1
theorem YB:FnScope ["self"] ["self"] (defScope xw) := by walk_at "sc"
noncomputable abbrev uC:Stmt := top 27
theorem YC:FnScope ["wide"] ["wide"] (defScope uC) := by walk_at "sc"
noncomputable abbrev YD:Stmt := top 28
theorem Vx:FnScope ["state","top","bottom","left","right"] ["state"] (defScope YD) := by walk_at "sc"
noncomputable abbrev uq:Stmt := top 29
theorem Z8:FnScope ["many"] ["many"] (defScope uq) := by walk_at "sc"
noncomputable abbrev Vy:Stmt := top 32
theorem zcX:FnScope ["state"] ["state"] (defScope Vy) := by walk_at "sc"
noncomputable abbrev qK:Stmt := top 33
theorem kz:FnScope ["state","then"] ["state"] (defScope qK) := by walk_at "sc"
noncomputable abbrev u7:Stmt := top 34
theorem jN:FnScope ["state","row","column"] ["state"] (defScope u7) := by walk_at "sc"
noncomputable abbrev qL:Stmt := top 35
theorem kA:FnScope ["state","wide","high"] ["state"] (defScope qL) := by walk_at "sc"
noncomputable abbrev YE:Stmt := top 36
theorem Vz:FnScope ["state","numbers","answers","number"] ["state","numbers"] (defScope YE) := by walk_at "sc"
noncomputable abbrev zaI:Stmt := top 38
theorem zbL:FnScope ["state","letter","many","times","edge"] ["state","letter","many"] (defScope zaI) := by walk_at "sc"
noncomputable abbrev kB:Stmt := top 39
theorem QU:FnScope ["number","first","last"] ["number","first","last"] (defScope kB) := by walk_at "sc"
noncomputable abbrev jG:Stmt := top 40
theorem Uf:FnScope ["state","row","column"] ["state","row","column"] (defScope jG) := by walk_at "sc"
noncomputable abbrev kC:Stmt := top 41
theorem QV:FnScope ["state"] ["state"] (defScope kC) := by walk_at "sc"
noncomputable abbrev VA:Stmt := top 43
theorem UT:FnScope ["first","last","size","begin","end"] ["first","last","size"] (defScope VA) := by walk_at "sc"
noncomputable abbrev jH:Stmt := top 44
theorem Zg:FnScope ["state","first","last","rows"] ["state","first","last"] (defScope jH) := by walk_at "sc"
noncomputable abbrev uD:Stmt := top 45
theorem jh:FnScope ["state","first","last","columns"] ["state","first","last"] (defScope uD) := by walk_at "sc"
noncomputable abbrev VB:Stmt := top 46
theorem zcY:FnScope ["ink","number"] ["ink","number"] (defScope VB) := by walk_at "sc"
noncomputable abbrev QW:Stmt := top 47
theorem J8:FnScope ["state","numbers","number"] ["state","numbers"] (defScope QW) := by walk_at "sc"
noncomputable abbrev u8:Stmt := top 48
theorem jO:FnScope ["state","numbers","on","turned_on","number"] ["state","numbers","on"] (defScope u8) := by walk_at "sc"
noncomputable abbrev kD:Stmt := top 50
theorem QX:FnScope ["_law_script","_law_k"] ["_law_script","_law_k"] (defScope kD) := by walk_at "sc"
noncomputable abbrev u9:Stmt := top 51
theorem jP:FnScope ["_law_cell","_law_k","_law_mixed_here"] ["_law_cell","_law_k"] (defScope u9) := by walk_at "sc"
noncomputable abbrev qM:Stmt := top 52
theorem kE:FnScope ["_law_cell","_law_wide"] ["_law_cell"] (defScope qM) := by walk_at "sc"
noncomputable abbrev uE:Stmt := top 53
theorem YF:FnScope ["_law_cell"] ["_law_cell"] (defScope uE) := by walk_at "sc"
noncomputable abbrev qd:Stmt := top 54
theorem jQ:FnScope ["_law_wide","_law_high","_law_m"] ["_law_wide","_law_high"] (defScope qd) := by walk_at "sc"
noncomputable abbrev qe:Stmt := top 55
theorem jR:FnScope ["_law_m","_law_top","_law_bottom","_law_left","_law_right"] ["_law_m"] (defScope qe) := by walk_at "sc"
noncomputable abbrev qf:Stmt := top 56
theorem Y8:FnScope ["_law_many"] ["_law_many"] (defScope qf) := by walk_at "sc"
noncomputable abbrev uF:Stmt := top 57
theorem ji:FnScope ["_law_m","_law_row","_law_column","_law_top","_law_bottom","_law_left","_law_right"] ["_law_m","_law_row","_law_column"] (defScope uF) := by walk_at "sc"
noncomputable abbrev ur:Stmt := top 58
theorem qA:FnScope ["_law_m","_law_letter","_law_many","_law_top","_law_bottom","_law_left","_law_right","_law_turn"] ["_law_m","_law_letter","_law_many"] (defScope ur) := by walk_at "sc"
noncomputable abbrev uG:Stmt := top 59
theorem jj:FnScope ["_law_m","_law_letter","_law_first","_law_last","_law_most","_law_names","_law_end"] ["_law_m","_law_letter","_law_first","_law_last"] (defScope uG) := by walk_at "sc"
noncomputable abbrev qg:Stmt := top 60
theorem jS:FnScope ["_law_m","_law_numbers","_law_on","_law_number_here"] ["_law_m","_law_numbers","_law_on"] (defScope qg) := by walk_at "sc"
noncomputable abbrev qN:Stmt := top 61
theorem kG:FnScope ["_law_m","_law_numbers","_law_number_here","_law_ink","_law_fore","_law_back","_law_marks"] ["_law_m","_law_numbers"] (defScope qN) := by walk_at "sc"
noncomputable abbrev vf:Stmt := top 62
theorem qh:FnScope ["_law_ink","_law_words"] ["_law_ink"] (defScope vf) := by walk_at "sc"
noncomputable abbrev qi:Stmt := top 63
theorem jT:FnScope ["_law_m","_law_numbers","_law_found","_law_number_here","_law_row","_law_column"] ["_law_m","_law_numbers"] (defScope qi) := by walk_at "sc"
noncomputable abbrev qO:Stmt := top 64
theorem kH:FnScope ["_law_state","_law_found"] ["_law_state"] (defScope qO) := by walk_at "sc"
noncomputable abbrev jI:Stmt := top 65
theorem Zh:FnScope ["_law_m","_law_found"] ["_law_m"] (defScope jI) := by walk_at "sc"
noncomputable abbrev qP:Stmt := top 66
theorem VC:FnScope ["_law_state","_law_m"] ["_law_state","_law_m"] (defScope qP) := by walk_at "sc"
noncomputable abbrev qQ:Stmt := top 67
theorem kI:FnScope ["_law_state","_law_m","_law_mixed_here","_law_one","_law_two","_law_way","_law_names"] ["_law_state","_law_m","_law_mixed_here"] (defScope qQ) := by walk_at "sc"
noncomputable abbrev qj:Stmt := top 68
theorem jU:FnScope ["_law_state","_law_m","_law_names"] ["_law_state","_law_m"] (defScope qj) := by walk_at "sc"
noncomputable abbrev QY:Stmt := top 69
theorem J9:FnScope ["_law_script","_law_wide","_law_high","_law_state","_law_m","_law_olds","_law_k","_law_cell","_law_mixed_here","_law_some","_law_numbers","_law_found"] ["_law_script"] (defScope QY) := by walk_at "sc"
structure Txt (P:Program) (w:World) (K:PySem.W.Frag) (mg:Str → Option Value) (C bw:Addr):Prop where
  n_len:mg "len" = none
  n_range:mg "range" = none
  n_int:mg "int" = none
  n_bool:mg "bool" = none
  n_str:mg "str" = none
  n_dict:mg "dict" = none
  n_list:mg "list" = none
  n_tuple:mg "tuple" = none
  n_isinstance:mg "isinstance" = none
  n_sorted:mg "sorted" = none
  n_min:mg "min" = none
  n_max:mg "max" = none
  n_zip:mg "zip" = none
  n_repr:mg "repr" = none
  n_enumerate:mg "enumerate" = none
  g_WIDEST:∃ t,mg "WIDEST" = some (.int 24 t)
  g_HIGHEST:∃ t,mg "HIGHEST" = some (.int 12 t)
  g_TAB_STEP:∃ t,mg "TAB_STEP" = some (.int 4 t)
  g_ALL_MARKS:∃ t,mg "ALL_MARKS" = some (.int 448 t)
  g_MOST_KEPT:∃ t,mg "MOST_KEPT" = some (.int 8 t)
  g_BITS_BY_MARK:∃ a,mg "BITS_BY_MARK" = some (.ref a) ∧ DK K a [(0,64),(1,128),(2,256)]
  g_BITS_BY_WORD:mg "BITS_BY_WORD" = some (.ref bw)
  d_bw:DS P w K bw bitsD
  mgC:mg "State" = some (.ref C)
  st:Sta K C
section
variable {P:Program} {w:World} {K:PySem.W.Frag} {mg:Str → Option Value} {base:Heap} {f C bw:Addr} {fd:FuncData}
theorem Z9 (F:Fun K "at_least_one" "at_least_one" uq f fd) (T:Txt P w K mg C bw):FnOk P w K mg base CX0 1 f fd ["many"] (zb K Yw) := by
  apply F.okV Z8 (by rintro _ _ _ ⟨n,rfl,_⟩; rfl) (fun cdv A outer sh H E hr => (zd (zC (xg (zl XE (pv 0) yJ (zo _)) za (yI (jY rfl) (by rfl) T.n_max (by rfl) (QA.pa (qc za (qc (pv 0) qn))))))))
  · walk_at "ref"
  rintro _ O R ⟨n,rfl,hn,h⟩
  rcases hn.cs with rfl | ⟨i,rfl,h0,h1⟩
  · walk_at "wd"
    exact .inl h
  · walk_at "wd"
    exact .inl h
theorem QZ (F:Fun K "counted" "counted" kB f fd) (T:Txt P w K mg C bw) (zhw:Cal P w K mg base 1 "at_least_one" [] (zb K Yw)):FnOk P w K mg base CX0 2 f fd ["number","first","last"] (zb K jv) := by
  apply F.okV QU (by rintro _ _ _ ⟨n,a,b,rfl,_⟩; rfl) (fun cdv A outer sh H E hr => (zd (zC (yI (vg rfl) (by rfl) T.n_min (by rfl) (QA.pa (qc (zh yc (zh yK (pv 1) (zk zhw (hr.mono (by decide)) rfl (QA.pa (qc (pv 0) qn)))) za) (qc (pv 2) qn)))))))
  · walk_at "ref"
  rintro _ O R ⟨n,a,b,rfl,hn,h⟩
  walk_at "wd"
  exact ⟨hn,.inl h⟩
theorem VD (F:Fun K "_law_times" "_law_times" qf f fd) (T:Txt P w K mg C bw):FnOk P w K mg base CX0 1 f fd ["_law_many"] (zb K ja) := by
  apply F.okV Y8 (by rintro _ _ _ ⟨n,rfl,_⟩; rfl) (fun cdv A outer sh H E hr => (zd (zC (xg (zl (qq (K := K) rfl) (pv 0) (yq (qc yJ (qc za qn))) (by with_unfolding_all rfl)) za (pv 0)))))
  · walk_at "ref"
  rintro _ O R ⟨n,rfl,hn,h⟩
  rcases hn.cs with rfl | ⟨i,rfl,h0,h1⟩
  · walk_at "wd"
    refine ⟨_,rfl,by simp,?_⟩
    rw [if_pos (by rfl)]
    exact .inl h
  · walk_at "wd"
    have e:inV (V.int i) (List.map vOf [.none,.int 0]) = decide (i = 0) := by
      simp [inV,eqV,vOf]
      by_cases q:i = 0
      · subst q; rfl
      · rw [decide_eq_false q]; exact beq_false_of_ne (Ne.symm q)
    refine ⟨_,rfl,by simp,?_⟩
    rw [e]
    simp only [xO] at h
    by_cases q:i = 0
    · rw [if_pos (by simp [q])]; rw [if_pos q] at h; exact .inl h
    · rw [if_neg (by simp [q])]; rw [if_neg q] at h; exact .inl h
theorem Ug (F:Fun K "is_whole" "is_whole" jE f fd) (T:Txt P w K mg C bw):FnOk P w K mg base CX0 1 f fd ["thing","least","most"] (zb K ZS) := by
  apply F.okV Ud (by rintro _ _ _ ⟨n,a,b,rfl,_⟩; rfl) (fun cdv A outer sh H E hr => (zd (zC (ZA (yI (kd (K := K) rfl) (by rfl) T.n_isinstance (by rfl) (QA.pa (qc (pv 0) (qc (Yi (v := .ty "int") (u := .type "int") rfl T.n_int rfl rfl) qn)))) (ZA (zdf (yI (kd (K := K) rfl) (by rfl) T.n_isinstance (by rfl) (QA.pa (qc (pv 0) (qc (Yi (v := .ty "bool") (u := .type "bool") rfl T.n_bool rfl rfl) qn))))) (Zz (Ko xI xI (pv 1) (pv 0) (pv 2))))))))
  · walk_at "ref"
  rintro _ O R ⟨n,lo,hi,rfl,h⟩
  walk_at "wd"
  split
  · rename_i h1; simp [h1] at h; exact .inl h
  · rename_i h1; simp [h1] at h; exact .inl h
theorem Q0 (F:Fun K "is_size" "is_size" ku f fd) (T:Txt P w K mg C bw) (zhN:Cal P w K mg base 1 "is_whole" [] (zb K ZS)):FnOk P w K mg base CX0 2 f fd ["wide","high"] (zb K Qt) := by
  apply F.okV QT (by rintro _ _ _ ⟨a,b,rfl,_⟩; rfl) (fun cdv A outer sh H E hr => (zd (zC (ZA (zk zhN (hr.mono (by decide)) rfl (QA.pa (qc (pv 0) (qc za (qc (kR rfl T.g_WIDEST) qn))))) (Zz (zk zhN (hr.mono (by decide)) rfl (QA.pa (qc (pv 1) (qc za (qc (kR rfl T.g_HIGHEST) qn))))))))))
  · walk_at "ref"
  rintro _ O R ⟨a,b,rfl,a1,a2,b1,b2,h⟩
  walk_at "wd"
  have e1:(1:Int) ≤ a ∧ (a:Int) ≤ 24 := by omega
  have e2:(1:Int) ≤ b ∧ (b:Int) ≤ 12 := by omega
  simp [e1,e2]
  exact .inl h
theorem zcZ (F:Fun K "span" "span" VA f fd) (T:Txt P w K mg C bw) (zhw:Cal P w K mg base 1 "at_least_one" [] (zb K Yw)):FnOk P w K mg base CX0 2 f fd ["first","last","size"] (zb K ZT) := by
  have nd := UT.nd
  apply F.okV UT (by rintro _ _ _ ⟨n,a,b,rfl,_⟩; rfl) (fun cdv A outer sh H E hr => (zc (zD (i := 3) nd rfl (Or.inl rfl) (zk zhw (hr.mono (by decide)) rfl (QA.pa (qc (pv 0) qn))))
      (zc (zD (i := 4) nd rfl (Or.inl rfl) (xg (qr (K := K) rfl (pv 1) (fun _ => rfl)) (yI (vg rfl) (by rfl) T.n_min (by rfl) (QA.pa (qc (pv 1) (qc (pv 2) qn)))) (pv 2)))
      (zd (zC (xg (zl uI (pv 3) (pv 4) (zo _)) yJ (yq (qc (zh yc (pv 3) za) (qc (zh yc (pv 4) za) qn)))))))))
  · walk_at "ref"
  rintro _ O R ⟨n,m,s,rfl,hn,hm,h⟩
  simp only [Xp] at h
  have fin:∀ E:Int,xm m s = E → if E < xc n then Clo R (.d .none) O else Clo R (.d (.tuple [.int (xc n - 1),.int (E - 1)])) O := by
    rintro E rfl
    split
    · rename_i e; rw [if_pos e] at h; exact .inl h
    · rename_i e; rw [if_neg e] at h; exact .inl h
  rcases hm.cs with rfl | ⟨i,rfl,h0,h1⟩
  · walk_at "wd"
    exact ⟨hn,fin s rfl⟩
  · walk_at "wd"
    refine ⟨hn,?_⟩
    by_cases hi:i = 0
    · first | exact .inl ⟨hi,fin s (by simp [xm,hi])⟩ | (rw [if_pos hi]; exact fin s (by simp [xm,hi]))
    · first | exact .inr ⟨hi,fin _ (by simp [xm,hi])⟩ | (rw [if_neg hi]; exact fin _ (by simp [xm,hi]))
theorem Q1 (F:Fun K "fore_of" "fore_of" kn f fd) (T:Txt P w K mg C bw):FnOk P w K mg base CX0 1 f fd ["ink"] (zb K (sI1 (fun _ => True) fun i => Builtin.bitAnd i 7)) := by
  apply F.okV QR (by rintro _ _ _ ⟨n,rfl,_⟩; rfl) (fun cdv A outer sh H E hr => (zd (zC (zh jX (pv 0) za))))
  · walk_at "ref"
  rintro _ O R ⟨n,rfl,_,h⟩
  walk_at "wd"
  exact .inl h
theorem Q2 (F:Fun K "back_of" "back_of" ko f fd) (T:Txt P w K mg C bw):FnOk P w K mg base CX0 1 f fd ["ink"] (zb K (sI1 (fun _ => True) fun i => Builtin.bitAnd (i / 8) 7)) := by
  apply F.okV QS (by rintro _ _ _ ⟨n,rfl,_⟩; rfl) (fun cdv A outer sh H E hr => (zd (zC (zh jX (zh Jg (pv 0) za) za))))
  · walk_at "ref"
  rintro _ O R ⟨n,rfl,_,h⟩
  walk_at "wd"
  exact .inl h
theorem Uh (F:Fun K "marks_of" "marks_of" jF f fd) (T:Txt P w K mg C bw):FnOk P w K mg base CX0 1 f fd ["ink"] (zb K (sI1 (fun _ => True) fun i => Builtin.bitAnd (i / 64) 7)) := by
  apply F.okV Ue (by rintro _ _ _ ⟨n,rfl,_⟩; rfl) (fun cdv A outer sh H E hr => (zd (zC (zh jX (zh Jg (pv 0) za) za))))
  · walk_at "ref"
  rintro _ O R ⟨n,rfl,_,h⟩
  walk_at "wd"
  exact .inl h
theorem Y2 {d:Value} (F:FunD K "ink_of" "ink_of" u6 [d] f fd) (T:Txt P w K mg C bw):FnOk P w K mg base CX0 1 f fd ["fore","back","marks"] (zb K jb) := by
  apply F.okV J7 (by rintro _ _ _ ⟨n,a,b,rfl,_⟩; rfl) (fun cdv A outer sh H E hr => (zd (zC (zh yK (zh yK (pv 0) (zh xZ za (pv 1))) (zh xZ za (pv 2))))))
  · walk_at "ref"
  rintro _ O R ⟨a,b,c,rfl,⟨b1,b2,c1,c2⟩,h⟩
  walk_at "wd"
  exact ⟨mulL (by omega) (by omega),mulL (by omega) (by omega),.inl h⟩
theorem Ya (F:Fun K "turned_marks" "turned_marks" uo f fd) (T:Txt P w K mg C bw):FnOk P w K mg base CX0 1 f fd ["ink"] (zb K (sI1 (fun _ => True) fun i => Builtin.bitXor i 448)) := by
  apply F.okV Z7 (by rintro _ _ _ ⟨n,rfl,_⟩; rfl) (fun cdv A outer sh H E hr => (zd (zC (zh zdq (pv 0) (kR rfl T.g_ALL_MARKS)))))
  · walk_at "ref"
  rintro _ O R ⟨n,rfl,_,h⟩
  walk_at "wd"
  exact .inl h
theorem VE (F:Fun K "with_mark" "with_mark" qJ f fd) (T:Txt P w K mg C bw):FnOk P w K mg base CX0 1 f fd ["ink","mark"] (zb K (sI2 (fun _ _ => True) fun i m => Builtin.bitOr i ((xU [(0,64),(1,128),(2,256)] m).getD 0))) := by
  obtain ⟨aB,hB,dB⟩ := T.g_BITS_BY_MARK
  apply F.okV Vv (by rintro _ _ _ ⟨n,m,rfl,_⟩; rfl) (fun cdv A outer sh H E hr => (zd (zC (zh zeO (pv 0) (Vb (K := K) rfl (kK (v := .ref aB) (u := .ref aB) rfl hB rfl) (QA.pa (qc (pv 1) (qc za qn))))))))
  · walk_at "ref"
  rintro _ O R ⟨n,m,rfl,_,h⟩
  walk_at "wd"
  exact ⟨_,dB,.inl h⟩
theorem Yb (F:Fun K "without_mark" "without_mark" um f fd) (T:Txt P w K mg C bw):FnOk P w K mg base CX0 1 f fd ["ink","mark"] (zb K (sI2 (fun _ _ => True) fun i m => Builtin.bitAnd i (Builtin.bitNot ((xU [(0,64),(1,128),(2,256)] m).getD 0)))) := by
  obtain ⟨aB,hB,dB⟩ := T.g_BITS_BY_MARK
  apply F.okV Z6 (by rintro _ _ _ ⟨n,m,rfl,_⟩; rfl) (fun cdv A outer sh H E hr => (zd (zC (zh jX (pv 0) (zeN zdr (Vb (K := K) rfl (kK (v := .ref aB) (u := .ref aB) rfl hB rfl) (QA.pa (qc (pv 1) (qc za qn)))))))))
  · walk_at "ref"
  rintro _ O R ⟨n,m,rfl,_,h⟩
  walk_at "wd"
  exact ⟨_,dB,.inl h⟩
end
section
variable {P:Program} {w:World} {K:PySem.W.Frag} {mg:Str → Option Value} {base:Heap} {f C bw:Addr} {fd:FuncData}
theorem VF (F:Fun K "with_fore" "with_fore" qH f fd) (T:Txt P w K mg C bw) (zhJ:Cal P w K mg base 1 "ink_of" [] (zb K jb)) (zhx:Cal P w K mg base 1 "back_of" [] (zb K (sI1 (fun _ => True) fun i => Builtin.bitAnd (i / 8) 7))) (zhP:Cal P w K mg base 1 "marks_of" [] (zb K (sI1 (fun _ => True) fun i => Builtin.bitAnd (i / 64) 7))) :
    FnOk P w K mg base CX0 2 f fd ["ink","hue"] (zb K (sI2 (fun i _ => Ink i) fun i h => h + 8 * Builtin.bitAnd (i / 8) 7 + 64 * Builtin.bitAnd (i / 64) 7)) := by
  apply F.okV Vt (by rintro _ _ _ ⟨n,m,rfl,_⟩; rfl) (fun cdv A outer sh H E hr => (zd (zC (zk zhJ (hr.mono (by decide)) rfl (QA.pa (qc (pv 1) (qc (zk zhx (hr.mono (by decide)) rfl (QA.pa (qc (pv 0) qn))) (qc (zk zhP (hr.mono (by decide)) rfl (QA.pa (qc (pv 0) qn))) qn))))))))
  · walk_at "ref"
  rintro _ O R ⟨n,m,rfl,hi,h⟩
  have a1 := zas hi
  have a2 := YY hi
  walk_at "wd"
  exact ⟨by omega,by omega,by omega,by omega,.inl h⟩
theorem VG (F:Fun K "with_back" "with_back" qI f fd) (T:Txt P w K mg C bw) (zhJ:Cal P w K mg base 1 "ink_of" [] (zb K jb)) (zhH:Cal P w K mg base 1 "fore_of" [] (zb K (sI1 (fun _ => True) fun i => Builtin.bitAnd i 7))) (zhP:Cal P w K mg base 1 "marks_of" [] (zb K (sI1 (fun _ => True) fun i => Builtin.bitAnd (i / 64) 7))) :
    FnOk P w K mg base CX0 2 f fd ["ink","hue"] (zb K (sI2 (fun i h => Ink i ∧ 0 ≤ h ∧ h ≤ 10) fun i h => Builtin.bitAnd i 7 + 8 * h + 64 * Builtin.bitAnd (i / 64) 7)) := by
  apply F.okV Vu (by rintro _ _ _ ⟨n,m,rfl,_⟩; rfl) (fun cdv A outer sh H E hr => (zd (zC (zk zhJ (hr.mono (by decide)) rfl (QA.pa (qc (zk zhH (hr.mono (by decide)) rfl (QA.pa (qc (pv 0) qn))) (qc (pv 1) (qc (zk zhP (hr.mono (by decide)) rfl (QA.pa (qc (pv 0) qn))) qn))))))))
  · walk_at "ref"
  rintro _ O R ⟨n,m,rfl,⟨hi,m1,m2⟩,h⟩
  have a2 := YY hi
  walk_at "wd"
  exact ⟨by omega,by omega,by omega,by omega,.inl h⟩
theorem zc0 (F:Fun K "dyed" "dyed" VB f fd) (T:Txt P w K mg C bw) (zh2:Cal P w K mg base 1 "with_mark" [] (zb K (sI2 (fun _ _ => True) fun i m => Builtin.bitOr i ((xU [(0,64),(1,128),(2,256)] m).getD 0))))
    (zh3:Cal P w K mg base 1 "without_mark" [] (zb K (sI2 (fun _ _ => True) fun i m => Builtin.bitAnd i (Builtin.bitNot ((xU [(0,64),(1,128),(2,256)] m).getD 0))))) (zhZ:Cal P w K mg base 1 "turned_marks" [] (zb K (sI1 (fun _ => True) fun i => Builtin.bitXor i 448)))
    (zh1:Cal P w K mg base 2 "with_fore" [] (zb K (sI2 (fun i _ => Ink i) fun i h => h + 8 * Builtin.bitAnd (i / 8) 7 + 64 * Builtin.bitAnd (i / 64) 7))) (zh0:Cal P w K mg base 2 "with_back" [] (zb K (sI2 (fun i h => Ink i ∧ 0 ≤ h ∧ h ≤ 10) fun i h => Builtin.bitAnd i 7 + 8 * h + 64 * Builtin.bitAnd (i / 64) 7))) :
    FnOk P w K mg base CX0 3 f fd ["ink","number"] (zb K Xq) := by
  apply F.okV zcY (by rintro _ _ _ ⟨n,m,rfl,_⟩; rfl) (fun cdv A outer sh H E hr => (zc (zB (PW.pt (jn (zl XE (pv 1) yJ (zo _)) (jV (zl yM (pv 1) za (zo _))))) (zd (zC za)) zL)
      (zc (zB (ue xI xI za (pv 1) za) (zd (zC (zk zh2 (hr.mono (by decide)) rfl (QA.pa (qc (pv 0) (qc (zh yc (pv 1) za) qn)))))) zL)
      (zc (zB (ue xI xI za (pv 1) za) (zd (zC (zk zh3 (hr.mono (by decide)) rfl (QA.pa (qc (pv 0) (qc (zh yc (pv 1) za) qn)))))) zL)
      (zc (zB (zl yM (pv 1) za (zo _)) (zd (zC (zk zhZ (hr.mono (by decide)) rfl (QA.pa (qc (pv 0) qn))))) zL)
      (zc (zB (ue xI xI za (pv 1) za) (zd (zC (zk zh1 (hr.mono (by decide)) rfl (QA.pa (qc (pv 0) (qc (zh yc (pv 1) za) qn)))))) zL)
      (zc (zB (ue xI xI za (pv 1) za) (zd (zC (zk zh0 (hr.mono (by decide)) rfl (QA.pa (qc (pv 0) (qc (zh yc (pv 1) za) qn)))))) zL)
      (zd (zC (pv 0))))))))))
  · walk_at "ref"
  rintro _ O R ⟨ink,n,rfl,hi,hn,h⟩
  rcases hn.cs with rfl | ⟨i,rfl,h0,h1⟩
  · walk_at "wd"
    exact .inl h
  · have key:∀ v,xz ink (.int i) = v → Clo R (.d (.int v)) O := fun v e => by rw [e] at h; exact .inl h
    walk_at "wd"
    repeat' split
    all_goals first
      | exact key _ (by simp only [xz]; repeat' (first | rw [if_pos (by omega)] | rw [if_neg (by omega)]))
      | exact ⟨hi,key _ (by simp only [xz]; repeat' (first | rw [if_pos (by omega)] | rw [if_neg (by omega)]))⟩
      | exact ⟨hi,by omega,by omega,key _ (by simp only [xz]; repeat' (first | rw [if_pos (by omega)] | rw [if_neg (by omega)]))⟩
theorem zaJ (F:Fun K "edges" "edges" YD f fd) (T:Txt P w K mg C bw):FnOk P w K mg base CX0 1 f fd ["state"] (zb K (Vc C)) := by
  have nd := Vx.nd
  apply F.okV Vx (by rintro _ _ _ ⟨x,dx,p,st,kp,S,rfl,_⟩; rfl) (fun cdv A outer sh H E hr => (zc (zD (i := 1) nd rfl (Or.inl rfl) (xg (zl Xh (zm (K := K) rfl (pv 0) rfl) (zm (K := K) rfl (pv 0) rfl) (zo _)) (zm (K := K) rfl (pv 0) rfl) za))
      (zc (zD (i := 2) nd rfl (Or.inl rfl) (xg (zl xI (zm (K := K) rfl (pv 0) rfl) (zm (K := K) rfl (pv 0) rfl) (zo _)) (zm (K := K) rfl (pv 0) rfl) (zh yc (zm (K := K) rfl (pv 0) rfl) za)))
      (zc (zD (i := 3) nd rfl (Or.inl rfl) (xg (zl Xh (zm (K := K) rfl (pv 0) rfl) (zm (K := K) rfl (pv 0) rfl) (zo _)) (zm (K := K) rfl (pv 0) rfl) za))
      (zc (zD (i := 4) nd rfl (Or.inl rfl) (xg (zl xI (zm (K := K) rfl (pv 0) rfl) (zm (K := K) rfl (pv 0) rfl) (zo _)) (zm (K := K) rfl (pv 0) rfl) (zh yc (zm (K := K) rfl (pv 0) rfl) za)))
      (zd (zC (yq (qc (pv 1) (qc (pv 2) (qc (pv 3) (qc (pv 4) qn))))))))))))
  · walk_at "ref"
  rintro _ O R ⟨x,dx,p,st,kp,S,rfl,hs,h⟩
  have hx := hs.x
  refine yG (fun ρ' O' => ρ' = [some (.own x),some (.d (.int (eT S))),none,none,none] ∧ O = O') (fun R1 hR1 => ?_) ?_
  · walk_at "wd"
    simp [hx,and_assoc,zp,T.st.cl,T.st.n_picture,T.st.n_wide,T.st.n_high,T.st.n_row,T.st.n_column,T.st.n_late,T.st.n_ink,T.st.n_wrap,T.st.n_putting,T.st.n_home,T.st.n_top,T.st.n_bottom,T.st.n_left,T.st.n_right,T.st.n_stops,T.st.n_kept,T.st.n_last,zI,yu,yv,yQ,z7,yw,yO,yx,zJ,yy,yR,z9,yz,yf,yg,yr,yA,yS,ya,yB,yT,yC,zK,yD,yU,yb,yE,yh,yF]
    split
    · rename_i e; exact hR1 _ _ ⟨by rw [eT,if_pos e],rfl⟩
    · rename_i e; exact hR1 _ _ ⟨by rw [eT,if_neg e],rfl⟩
  rintro _ _ ⟨rfl,rfl⟩
  refine yG (fun ρ' O' => ρ' = [some (.own x),some (.d (.int (eT S))),some (.d (.int (eB S))),none,none] ∧ O = O') (fun R1 hR1 => ?_) ?_
  · walk_at "wd"
    simp [hx,and_assoc,zp,T.st.cl,T.st.n_picture,T.st.n_wide,T.st.n_high,T.st.n_row,T.st.n_column,T.st.n_late,T.st.n_ink,T.st.n_wrap,T.st.n_putting,T.st.n_home,T.st.n_top,T.st.n_bottom,T.st.n_left,T.st.n_right,T.st.n_stops,T.st.n_kept,T.st.n_last,zI,yu,yv,yQ,z7,yw,yO,yx,zJ,yy,yR,z9,yz,yf,yg,yr,yA,yS,ya,yB,yT,yC,zK,yD,yU,yb,yE,yh,yF]
    split
    · rename_i e; exact hR1 _ _ ⟨by rw [eB,if_pos e],rfl⟩
    · rename_i e; exact hR1 _ _ ⟨by rw [eB,if_neg e],rfl⟩
  rintro _ _ ⟨rfl,rfl⟩
  refine yG (fun ρ' O' => ρ' = [some (.own x),some (.d (.int (eT S))),some (.d (.int (eB S))),some (.d (.int (eL S))),none] ∧ O = O') (fun R1 hR1 => ?_) ?_
  · walk_at "wd"
    simp [hx,and_assoc,zp,T.st.cl,T.st.n_picture,T.st.n_wide,T.st.n_high,T.st.n_row,T.st.n_column,T.st.n_late,T.st.n_ink,T.st.n_wrap,T.st.n_putting,T.st.n_home,T.st.n_top,T.st.n_bottom,T.st.n_left,T.st.n_right,T.st.n_stops,T.st.n_kept,T.st.n_last,zI,yu,yv,yQ,z7,yw,yO,yx,zJ,yy,yR,z9,yz,yf,yg,yr,yA,yS,ya,yB,yT,yC,zK,yD,yU,yb,yE,yh,yF]
    split
    · rename_i e; exact hR1 _ _ ⟨by rw [eL,if_pos e],rfl⟩
    · rename_i e; exact hR1 _ _ ⟨by rw [eL,if_neg e],rfl⟩
  rintro _ _ ⟨rfl,rfl⟩
  refine yG (fun ρ' O' => ρ' = [some (.own x),some (.d (.int (eT S))),some (.d (.int (eB S))),some (.d (.int (eL S))),some (.d (.int (eR S)))] ∧ O = O') (fun R1 hR1 => ?_) ?_
  · walk_at "wd"
    simp [hx,and_assoc,zp,T.st.cl,T.st.n_picture,T.st.n_wide,T.st.n_high,T.st.n_row,T.st.n_column,T.st.n_late,T.st.n_ink,T.st.n_wrap,T.st.n_putting,T.st.n_home,T.st.n_top,T.st.n_bottom,T.st.n_left,T.st.n_right,T.st.n_stops,T.st.n_kept,T.st.n_last,zI,yu,yv,yQ,z7,yw,yO,yx,zJ,yy,yR,z9,yz,yf,yg,yr,yA,yS,ya,yB,yT,yC,zK,yD,yU,yb,yE,yh,yF]
    split
    · rename_i e; exact hR1 _ _ ⟨by rw [eR,if_pos e],rfl⟩
    · rename_i e; exact hR1 _ _ ⟨by rw [eR,if_neg e],rfl⟩
  rintro _ _ ⟨rfl,rfl⟩
  walk_at "wd"
  exact .inl h
theorem Ui (F:Fun K "to_place" "to_place" jG f fd) (T:Txt P w K mg C bw) (zhC:Cal P w K mg base 2 "counted" [] (zb K jv)):FnOk P w K mg base CX0 3 f fd ["state","row","column"] (zb K (ZU C)) := by
  apply F.okV Uf (by rintro _ _ _ ⟨r,c,_,_,x,dx,p,st,kp,S,rfl,_⟩; rfl) (fun cdv A outer sh H E hr => (zc (zB (uv (zm (K := K) rfl (pv 0) rfl)) (zc (zA (K := K) rfl (pv 0) (zk zhC (hr.mono (by decide)) rfl (QA.pa (qc (pv 1) (qc (zm (K := K) rfl (pv 0) rfl) (qc (zm (K := K) rfl (pv 0) rfl) qn))))) rfl)
      (zd (zA (K := K) rfl (pv 0) (zk zhC (hr.mono (by decide)) rfl (QA.pa (qc (pv 2) (qc (zm (K := K) rfl (pv 0) rfl) (qc (zm (K := K) rfl (pv 0) rfl) qn))))) rfl))) (zc (zA (K := K) rfl (pv 0) (zk zhC (hr.mono (by decide)) rfl (QA.pa (qc (pv 1) (qc za (qc (zh yc (zm (K := K) rfl (pv 0) rfl) za) qn))))) rfl)
      (zd (zA (K := K) rfl (pv 0) (zk zhC (hr.mono (by decide)) rfl (QA.pa (qc (pv 2) (qc za (qc (zh yc (zm (K := K) rfl (pv 0) rfl) za) qn))))) rfl))))
      (zd (zA (K := K) rfl (pv 0) xH rfl))))
  · walk_at "ref"
  rintro _ O R ⟨r,c,hr,hc,x,dx,p,st,kp,S,rfl,hs,_,h⟩
  have hx := hs.x
  simp only [plS] at h
  walk_at "wd"
  simp [hx,hr,hc,yV,and_assoc,zp,T.st.cl,T.st.n_picture,T.st.n_wide,T.st.n_high,T.st.n_row,T.st.n_column,T.st.n_late,T.st.n_ink,T.st.n_wrap,T.st.n_putting,T.st.n_home,T.st.n_top,T.st.n_bottom,T.st.n_left,T.st.n_right,T.st.n_stops,T.st.n_kept,T.st.n_last,zI,yu,yv,yQ,z7,yw,yO,yx,zJ,yy,yR,z9,yz,yf,yg,yr,yA,yS,ya,yB,yT,yC,zK,yD,yU,yb,yE,yh,yF]
  cases hh:S.home with
  | true =>
    simp [hh] at h ⊢
    exact .inl (h _ (hs.fld rfl rfl rfl) But.ux)
  | false =>
    simp [hh] at h ⊢
    exact .inl (h _ (hs.fld rfl rfl rfl) But.ux)
theorem Q3 (F:Fun K "to_home" "to_home" kC f fd) (T:Txt P w K mg C bw) (zhV:Cal P w K mg base 3 "to_place" [] (zb K (ZU C))):FnOk P w K mg base CX0 4 f fd ["state"] (zb K (ZV C)) := by
  apply F.okV QV (by rintro _ _ _ ⟨x,dx,p,st,kp,S,rfl,_⟩; rfl) (fun cdv A outer sh H E hr => (zd (zr (zk zhV (hr.mono (by decide)) rfl (QA.pa (qc (pv 0) (qc yJ (qc yJ qn))))))))
  · walk_at "ref"
  rintro _ O R ⟨x,dx,p,st,kp,S,rfl,hs,_,h⟩
  walk_at "wd"
  exact ⟨.none,.none,trivial,trivial,x,dx,p,st,kp,S,rfl,hs,trivial,fun O' h1 h2 => .inl (h O' h1 h2)⟩
end
section
variable {P:Program} {w:World} {K:PySem.W.Frag} {mg:Str → Option Value} {base:Heap} {f C bw:Addr} {fd:FuncData}
theorem Uj (F:Fun K "set_rows" "set_rows" jH f fd) (T:Txt P w K mg C bw) (zhS:Cal P w K mg base 2 "span" [] (zb K ZT)) (zhU:Cal P w K mg base 4 "to_home" [] (zb K (ZV C))):FnOk P w K mg base CX0 5 f fd ["state","first","last"] (zb K (Xr C)) := by
  have nd := Zg.nd
  apply F.okV Zg (by rintro _ _ _ ⟨r,c,_,_,x,dx,p,st,kp,S,rfl,_⟩; rfl) (fun cdv A outer sh H E hr => (zc (zD (i := 3) nd rfl (Or.inl rfl) (zk zhS (hr.mono (by decide)) rfl (QA.pa (qc (pv 1) (qc (pv 2) (qc (zm (K := K) rfl (pv 0) rfl) qn))))))
      (zd (zB (zl Uv (pv 3) yJ (zo _)) (zc (zA (K := K) rfl (pv 0) (yN (xC (K := K) rfl) (pv 3) za (fun _ _ => rfl)) rfl)
      (zc (zA (K := K) rfl (pv 0) (yN (xC (K := K) rfl) (pv 3) za (fun _ _ => rfl)) rfl)
      (zd (zr (zk zhU (hr.mono (by decide)) rfl (QA.pa (qc (pv 0) qn))))))) zL))))
  · walk_at "ref"
  rintro _ O R ⟨a,b,ha,hb,x,dx,p,st,kp,S,rfl,hs,_,h⟩
  have hx := hs.x
  simp only [xJ] at h
  walk_at "wd"
  simp [hx,ha,hb,yV,Xp,and_assoc,zp,T.st.cl,T.st.n_picture,T.st.n_wide,T.st.n_high,T.st.n_row,T.st.n_column,T.st.n_late,T.st.n_ink,T.st.n_wrap,T.st.n_putting,T.st.n_home,T.st.n_top,T.st.n_bottom,T.st.n_left,T.st.n_right,T.st.n_stops,T.st.n_kept,T.st.n_last,zI,yu,yv,yQ,z7,yw,yO,yx,zJ,yy,yR,z9,yz,yf,yg,yr,yA,yS,ya,yB,yT,yC,zK,yD,yU,yb,yE,yh,yF]
  by_cases e:xm b S.h < xc a
  · rw [if_pos e] at h
    simp [e,ut]
    exact .inl (h _ hs But.refl)
  · rw [if_neg e] at h
    simp [e,ut,atI,ixN,xK,hx,yV,and_assoc,zp,T.st.cl,T.st.n_picture,T.st.n_wide,T.st.n_high,T.st.n_row,T.st.n_column,T.st.n_late,T.st.n_ink,T.st.n_wrap,T.st.n_putting,T.st.n_home,T.st.n_top,T.st.n_bottom,T.st.n_left,T.st.n_right,T.st.n_stops,T.st.n_kept,T.st.n_last,zI,yu,yv,yQ,z7,yw,yO,yx,zJ,yy,yR,z9,yz,yf,yg,yr,yA,yS,ya,yB,yT,yC,zK,yD,yU,yb,yE,yh,yF]
    refine ⟨x,dx,p,st,kp,_,rfl,hs.fld (S' := { S with top := xc a - 1,bottom := xm b S.h - 1 }) rfl rfl rfl,trivial,fun O' h1 h2 => .inl (h O' h1 (But.ux.trans h2))⟩
theorem YG (F:Fun K "set_columns" "set_columns" uD f fd) (T:Txt P w K mg C bw) (zhS:Cal P w K mg base 2 "span" [] (zb K ZT)) (zhU:Cal P w K mg base 4 "to_home" [] (zb K (ZV C))):FnOk P w K mg base CX0 5 f fd ["state","first","last"] (zb K (Xs C)) := by
  have nd := jh.nd
  apply F.okV jh (by rintro _ _ _ ⟨r,c,_,_,x,dx,p,st,kp,S,rfl,_⟩; rfl) (fun cdv A outer sh H E hr => (zc (zD (i := 3) nd rfl (Or.inl rfl) (zk zhS (hr.mono (by decide)) rfl (QA.pa (qc (pv 1) (qc (pv 2) (qc (zm (K := K) rfl (pv 0) rfl) qn))))))
      (zd (zB (zl Uv (pv 3) yJ (zo _)) (zc (zA (K := K) rfl (pv 0) (yN (xC (K := K) rfl) (pv 3) za (fun _ _ => rfl)) rfl)
      (zc (zA (K := K) rfl (pv 0) (yN (xC (K := K) rfl) (pv 3) za (fun _ _ => rfl)) rfl)
      (zd (zr (zk zhU (hr.mono (by decide)) rfl (QA.pa (qc (pv 0) qn))))))) zL))))
  · walk_at "ref"
  rintro _ O R ⟨a,b,ha,hb,x,dx,p,st,kp,S,rfl,hs,_,h⟩
  have hx := hs.x
  simp only [ve] at h
  walk_at "wd"
  simp [hx,ha,hb,yV,Xp,and_assoc,zp,T.st.cl,T.st.n_picture,T.st.n_wide,T.st.n_high,T.st.n_row,T.st.n_column,T.st.n_late,T.st.n_ink,T.st.n_wrap,T.st.n_putting,T.st.n_home,T.st.n_top,T.st.n_bottom,T.st.n_left,T.st.n_right,T.st.n_stops,T.st.n_kept,T.st.n_last,zI,yu,yv,yQ,z7,yw,yO,yx,zJ,yy,yR,z9,yz,yf,yg,yr,yA,yS,ya,yB,yT,yC,zK,yD,yU,yb,yE,yh,yF]
  by_cases e:xm b S.w < xc a
  · rw [if_pos e] at h
    simp [e,ut]
    exact .inl (h _ hs But.refl)
  · rw [if_neg e] at h
    simp [e,ut,atI,ixN,xK,hx,yV,and_assoc,zp,T.st.cl,T.st.n_picture,T.st.n_wide,T.st.n_high,T.st.n_row,T.st.n_column,T.st.n_late,T.st.n_ink,T.st.n_wrap,T.st.n_putting,T.st.n_home,T.st.n_top,T.st.n_bottom,T.st.n_left,T.st.n_right,T.st.n_stops,T.st.n_kept,T.st.n_last,zI,yu,yv,yQ,z7,yw,yO,yx,zJ,yy,yR,z9,yz,yf,yg,yr,yA,yS,ya,yB,yT,yC,zK,yD,yU,yb,yE,yh,yF]
    refine ⟨x,dx,p,st,kp,_,rfl,hs.fld (S' := { S with left := xc a - 1,right := xm b S.w - 1 }) rfl rfl rfl,trivial,fun O' h1 h2 => .inl (h O' h1 (But.ux.trans h2))⟩
theorem zeI (F:Fun K "dye" "dye" QW f fd) (T:Txt P w K mg C bw) (zhE:Cal P w K mg base 3 "dyed" [] (zb K Xq)):FnOk P w K mg base CX0 4 f fd ["state","numbers"] (zb K (zar C)) := by
  have nd := J8.nd
  apply F.okV J8 (by rintro _ _ _ ⟨ns,_,x,dx,p,st,kp,S,rfl,_⟩; rfl) (fun cdv A outer sh H E hr => (zd (vZ PassesOwn.never rfl (ui (K := K) rfl (pv 1)) (zM (i := 2) nd rfl (Or.inl rfl))
      (zd (zA (K := K) rfl (pv 0) (zk zhE (hr.mono (by decide)) rfl (QA.pa (qc (zm (K := K) rfl (pv 0) rfl) (qc (pv 2) qn)))) rfl)))))
  · walk_at "ref"
  rintro _ O R ⟨ns,hns,x,dx,p,st,kp,S,rfl,hs,hi,h⟩
  walk_at "wd"
  refine xV.by (fun i ρ O' => ∃ v,ρ = [some (.own x),some (.d (.tuple ns)),v] ∧ StAt O' C x dx p st kp (vN (ns.take i) S) ∧ Ink (vN (ns.take i) S).ink ∧ But O O' x p) ⟨_,rfl,hs,hi,But.refl⟩ (fun _ _ _ _ => trivial) ?_ ?_
  · rintro i wv _ O1 hw ⟨v,rfl,hs1,hi1,hb1⟩ R1 hR1
    rw [List.getElem?_map] at hw
    cases hni:ns[i]? with
    | none => rw [hni] at hw; cases hw
    | some n =>
      rw [hni] at hw
      cases hw
      have hx1 := hs1.x
      have hn := hns n (List.mem_of_getElem? hni)
      walk_at "wd"
      simp [hx1,hi1,hn,yV,and_assoc,zp,T.st.cl,T.st.n_picture,T.st.n_wide,T.st.n_high,T.st.n_row,T.st.n_column,T.st.n_late,T.st.n_ink,T.st.n_wrap,T.st.n_putting,T.st.n_home,T.st.n_top,T.st.n_bottom,T.st.n_left,T.st.n_right,T.st.n_stops,T.st.n_kept,T.st.n_last,zI,yu,yv,yQ,z7,yw,yO,yx,zJ,yy,yR,z9,yz,yf,yg,yr,yA,yS,ya,yB,yT,yC,zK,yD,yU,yb,yE,yh,yF]
      have et:ns.take (i + 1) = ns.take i ++ [n] := by
        rw [List.take_add_one,hni]; rfl
      refine hR1 _ _ ⟨_,rfl,?_,?_,hb1.trans But.ux⟩
      · have := hs1.fld (S' := { vN (ns.take i) S with ink := xz (vN (ns.take i) S).ink n }) rfl rfl rfl
        rw [et]
        simpa [vN,List.foldl_append] using this
      · rw [et]
        simp only [vN,List.foldl_append,List.foldl_cons,List.foldl_nil]
        exact Zs hi1
  · rintro ρ O1 ⟨v,rfl,hs1,_,hb1⟩
    simp at hs1
    exact .inl (h _ hs1 hb1)
end
section
variable {P:Program} {w:World} {K:PySem.W.Frag} {mg:Str → Option Value} {base:Heap} {f C bw:Addr} {fd:FuncData}
theorem Y9 (F:Fun K "turn_modes" "turn_modes" u8 f fd) (T:Txt P w K mg C bw) (zhU:Cal P w K mg base 4 "to_home" [] (zb K (ZV C))):FnOk P w K mg base CX0 5 f fd ["state","numbers","on"] (zb K (ZW C)) := by
  have nd := jO.nd
  apply F.okV jO (by rintro _ _ _ ⟨k,on,x,dx,p,st,kp,S,rfl,_⟩; rfl) (fun cdv A outer sh H E hr => (zc (zD (i := 3) nd rfl (Or.inl rfl) (uM zdC (pv 2) xH (zo _)))
      (zc (vZ PassesOwn.never rfl (ui (K := K) rfl (pv 1)) (zM (i := 4) nd rfl (Or.inl rfl))
      (zd (zB (zl yM (pv 4) za (zo _)) (zd (zA (K := K) rfl (pv 0) (pv 3) rfl)) (zd (zB (zl yM (pv 4) za (zo _)) (zd (zA (K := K) rfl (pv 0) (pv 3) rfl)) (zd (zB (zl yM (pv 4) za (zo _)) (zd (zA (K := K) rfl (pv 0) (pv 3) rfl)) zL)))))))
      (zd (zB (zl (qq (K := K) rfl) za (pv 1) (by with_unfolding_all rfl)) (zd (zr (zk zhU (hr.mono (by decide)) rfl (QA.pa (qc (pv 0) qn))))) zL)))))
  · walk_at "ref"
  rintro _ O R ⟨k,on,x,dx,p,st,kp,S,rfl,hs,_,h⟩
  refine yG (fun ρ' O' => ρ' = [some (.own x),some (.d (.tuple [.int k])),some (.d (.bool on)),some (.d (.bool on)),none] ∧ O = O') (fun R1 hR1 => ?_) ?_
  · walk_at "wd"
    exact hR1 _ _ ⟨rfl,rfl⟩
  rintro _ _ ⟨rfl,rfl⟩
  refine yG (fun ρ' O' => ∃ v,ρ' = [some (.own x),some (.d (.tuple [.int k])),some (.d (.bool on)),some (.d (.bool on)),v] ∧ But O O' x p ∧ StAt O' C x dx p st kp (if k = 1 then { S with wrap := on } else if k = 2 then { S with putting := on } else if k = 3 then { S with home := on } else S)) (fun R1 hR1 => ?_) ?_
  · walk_at "wd"
    refine xV.by (fun i ρ O' => ∃ v,ρ = [some (.own x),some (.d (.tuple [.int k])),some (.d (.bool on)),some (.d (.bool on)),v] ∧ But O O' x p ∧ StAt O' C x dx p st kp (if i = 0 then S else if k = 1 then { S with wrap := on } else if k = 2 then { S with putting := on } else if k = 3 then { S with home := on } else S)) ⟨_,rfl,But.refl,hs⟩ (fun _ _ _ _ => trivial) ?_ ?_
    · rintro i wv _ O1 hw ⟨v,rfl,hb1,hs1⟩ R2 hR2
      cases i with
      | succ i => simp at hw
      | zero =>
        cases hw
        rw [if_pos rfl] at hs1
        have hx1 := hs1.x
        walk_at "wd"
        simp [hx1,yV,and_assoc,zp,T.st.cl,T.st.n_picture,T.st.n_wide,T.st.n_high,T.st.n_row,T.st.n_column,T.st.n_late,T.st.n_ink,T.st.n_wrap,T.st.n_putting,T.st.n_home,T.st.n_top,T.st.n_bottom,T.st.n_left,T.st.n_right,T.st.n_stops,T.st.n_kept,T.st.n_last,zI,yu,yv,yQ,z7,yw,yO,yx,zJ,yy,yR,z9,yz,yf,yg,yr,yA,yS,ya,yB,yT,yC,zK,yD,yU,yb,yE,yh,yF]
        split
        · rename_i e; subst e; exact hR2 _ _ ⟨_,rfl,hb1.trans But.ux,by simpa using hs1.fld (S' := { S with wrap := on }) rfl rfl rfl⟩
        · split
          · rename_i e; subst e; exact hR2 _ _ ⟨_,rfl,hb1.trans But.ux,by simpa using hs1.fld (S' := { S with putting := on }) rfl rfl rfl⟩
          · split
            · rename_i e; subst e; exact hR2 _ _ ⟨_,rfl,hb1.trans But.ux,by simpa using hs1.fld (S' := { S with home := on }) rfl rfl rfl⟩
            · rename_i e1 e2 e3; exact hR2 _ _ ⟨_,rfl,hb1,by simpa [e1,e2,e3] using hs1⟩
    · rintro ρ O1 ⟨v,rfl,hb1,hs1⟩
      exact hR1 _ _ ⟨v,rfl,hb1,by simpa using hs1⟩
  rintro _ O1 ⟨v,rfl,hb1,hs1⟩
  walk_at "wd"
  simp [jt,xK,inV,eqV,scD,vOf]
  simp only [xW] at h
  by_cases e:k = 3
  · subst e
    simp at hs1 h ⊢
    exact ⟨x,dx,p,st,kp,_,rfl,hs1,trivial,fun O' h1 h2 => .inl (h O' h1 (hb1.trans h2))⟩
  · simp [e] at hs1 h ⊢
    exact .inl (h _ hs1 hb1)
end
section
variable {P:Program} {w:World} {K:PySem.W.Frag} {mg:Str → Option Value} {base:Heap} {f C bw:Addr} {fd:FuncData}
theorem kJ {d:Value} (F:FunD K "blank_row" "blank_row" vQ [d] f fd) (T:Txt P w K mg C bw):FnOk P w K mg base CX0 1 f fd ["wide","ink"] (zb K qt) := by
  apply F.okV Vw (by rintro _ _ _ ⟨a,i,rfl,_⟩; rfl) (fun cdv A outer sh H E hr => (zd (zC (JT (qD (N := ["column","ink"]) (n := 1) (js := [1])) rfl (uw rfl T.n_range (QA.pa (qc (pv 0) qn))) (fun _ _ _ _ => (zM (i := 0) (show List.Nodup (["column","ink"]:List Str) by decide +kernel) rfl (Or.inl rfl))) (fun _ _ _ _ => uN) (fun _ _ _ _ => (yq (qc zg (qc (pv 1) qn))))))))
  · walk_at "ref"
  rintro _ O R ⟨a,i,rfl,ha,h⟩
  walk_at "wd"
  refine ⟨by omega,by omega,fun _ => some (uT (xB i)),?_,fun p hp => .inl ?_⟩
  · intro k hk us hus
    match us,hus with
    | [u],_ => simp [xF,uT,xB]
  · have := h p hp
    simpa [List.filterMap_map,Function.comp_def] using this
theorem ql {d:Value} (F:FunD K "blank_picture" "blank_picture" xR [d] f fd) (T:Txt P w K mg C bw) (zhM:Cal P w K mg base 2 "is_size" [] (zb K Qt)) (zhA:Cal P w K mg base 1 "blank_row" [] (zb K qt)) :
    FnOk P w K mg base CX0 3 f fd ["wide","high","ink"] (zb K qu) := by
  apply F.okV Zt (by rintro _ _ _ ⟨a,b,i,rfl,_⟩; rfl) (fun cdv A outer sh H E hr => (zc (zB (Zy (uv (zk zhM (hr.mono (by decide)) rfl (QA.pa (qc (pv 0) (qc (pv 1) qn)))))) (zd Ki) zL)
      (zd (zC (zee (qD (N := ["row","wide","ink"]) (n := 1) (js := [0,2])) rfl (uw rfl T.n_range (QA.pa (qc (pv 1) qn))) (fun _ _ _ _ => (zM (i := 0) (show List.Nodup (["row","wide","ink"]:List Str) by decide +kernel) rfl (Or.inl rfl))) (fun _ _ _ _ => uN) (fun _ _ _ _ => (zk zhA (hr.mono (by decide)) rfl (QA.pa (qc (pv 1) (qc (pv 2) qn))))))))))
  · walk_at "ref"
  rintro _ O R ⟨a,b,i,rfl,a1,a2,b1,b2,h⟩
  walk_at "wd"
  refine ⟨a,b,rfl,a1,a2,b1,b2,?_⟩
  simp
  refine ⟨by omega,by omega,fun _ => (List.range a).map fun _ => uT (xB i),?_,fun p hp => .inl ?_⟩
  · intro k hk us hus
    match us,hus with
    | [u],_ =>
      simp
      exact ⟨a,i,rfl,a2,fun p hp => ⟨p,hp,rfl,by simp⟩⟩
  · have := h p hp
    simpa [genG,Function.comp_def] using this
theorem YH (F:Fun K "first_stops" "first_stops" uC f fd) (T:Txt P w K mg C bw):FnOk P w K mg base CX0 1 f fd ["wide"] (zb K Vd) := by
  apply F.okV YC (by rintro _ _ _ ⟨a,rfl,_⟩; rfl) (fun cdv A outer sh H E hr => (zd (zC (xQ (zcC (K := K) rfl rfl) (by rfl) T.n_dict rfl (QA.pa (qc (kO (qD (N := ["column"]) (n := 1) (js := [])) rfl (JB rfl T.n_range (QA.pa (qc (kR rfl T.g_TAB_STEP) (qc (pv 0) (qc (kR rfl T.g_TAB_STEP) qn))))) (fun _ _ _ _ => (zM (i := 0) (show List.Nodup (["column"]:List Str) by decide +kernel) rfl (Or.inl rfl))) (fun _ _ _ _ => uN) (fun _ _ _ _ => (yq (qc (pv 0) (qc xH qn))))) qn))))))
  · walk_at "ref"
  rintro _ O R ⟨a,rfl,a1,a2,h⟩
  walk_at "wd"
  refine ⟨_,r3w a1 a2,by omega,fun v => match v with | .d (.int k) => some (.tuple [.int k,.bool true]) | _ => none,?_,?_⟩
  · intro k hk us hus
    match us,hus with
    | [u],_ => simp [xF]
  · have e1:∀ (g:Nat → Int) (l:List Nat),List.filterMap ((fun v => match v with | W.d (PyData.int k) => some (PyData.tuple [PyData.int k,PyData.bool true]) | _ => none) ∘ fun k => W.d (PyData.int (g k))) l = l.map fun k => PyData.tuple [.int (g k),.bool true] := fun g l => congrFun (List.filterMap_eq_map (f := fun k => PyData.tuple [.int (g k),.bool true])) l
    have e2:∀ (g:Nat → Int) (l:List Nat),uc (l.map fun k => PyData.tuple [.int (g k),.bool true]) = some (l.map fun k => (Sum.inl (g k),PyData.bool true)) := fun g l => by
      induction l with
      | nil => rfl
      | cons k l ih => simp [uc,ih]
    rw [e1 (fun k => 4 + (k:Int) * 4)]
    refine ⟨_,rfl,_,e2 _ _,by simp; omega,fun p hp => .inl ?_⟩
    have := h p hp
    rw [List.map_map,ZX (by have := zat a2; simpa [jc,stK,stopsI,Function.comp_def] using this)]
    simpa [jc,stK,stopsI,Function.comp_def] using this
theorem YI (F:Fun K "begin" "State.begin" xw f fd) (T:Txt P w K mg C bw) (zhG:Cal P w K mg base 1 "first_stops" [] (zb K Vd)):FnOk P w K mg base CX0 2 f fd ["self"] (zb K (Ve C)) := by
  apply F.okV YB (by rintro _ _ _ ⟨x,dx,p,w,h,rfl,_⟩; rfl) (fun cdv A outer sh H E hr => (zc (zA (K := K) rfl (pv 0) za rfl)
      (zc (zA (K := K) rfl (pv 0) za rfl)
      (zc (zA (K := K) rfl (pv 0) xH rfl)
      (zc (zA (K := K) rfl (pv 0) za rfl)
      (zc (zA (K := K) rfl (pv 0) xH rfl)
      (zc (zA (K := K) rfl (pv 0) xH rfl)
      (zc (zA (K := K) rfl (pv 0) xH rfl)
      (zc (zA (K := K) rfl (pv 0) za rfl)
      (zc (zA (K := K) rfl (pv 0) (zh yc (zm (K := K) rfl (pv 0) rfl) za) rfl)
      (zc (zA (K := K) rfl (pv 0) za rfl)
      (zc (zA (K := K) rfl (pv 0) (zh yc (zm (K := K) rfl (pv 0) rfl) za) rfl)
      (zc (zA (K := K) rfl (pv 0) (zk zhG (hr.mono (by decide)) rfl (QA.pa (qc (zm (K := K) rfl (pv 0) rfl) qn))) rfl)
      (zc (zA (K := K) rfl (pv 0) (uh qn) rfl)
      (zd (zA (K := K) rfl (pv 0) yJ rfl))))))))))))))))
  · walk_at "ref"
  rintro _ O R ⟨x,dx,p,a,b,rfl,hx,a1,a2,h⟩
  walk_at "wd"
  simp [hx,zfW,zfX,zfY,zfZ,zf0,zf1,zf2,zfb,zfc,zfd,zfe,Qx,Qy,Qz,and_assoc,zp,T.st.cl,T.st.n_picture,T.st.n_wide,T.st.n_high,T.st.n_row,T.st.n_column,T.st.n_late,T.st.n_ink,T.st.n_wrap,T.st.n_putting,T.st.n_home,T.st.n_top,T.st.n_bottom,T.st.n_left,T.st.n_right,T.st.n_stops,T.st.n_kept,T.st.n_last,zI,yu,yv,yQ,z7,yw,yO,yx,zJ,yy,yR,z9,yz,yf,yg,yr,yA,yS,ya,yB,yT,yC,zK,yD,yU,yb,yE,yh,yF]
  refine ⟨a,rfl,a1,a2,fun st hst => ?_⟩
  have nsx:st ≠ x := fun e => by rw [e,ze] at hst; cases hst
  rw [zf nsx] at hst
  simp [zf (Ne.symm nsx),ze,zff,zby,and_assoc,zp,T.st.cl,T.st.n_picture,T.st.n_wide,T.st.n_high,T.st.n_row,T.st.n_column,T.st.n_late,T.st.n_ink,T.st.n_wrap,T.st.n_putting,T.st.n_home,T.st.n_top,T.st.n_bottom,T.st.n_left,T.st.n_right,T.st.n_stops,T.st.n_kept,T.st.n_last,zI,yu,yv,yQ,z7,yw,yO,yx,zJ,yy,yR,z9,yz,yf,yg,yr,yA,yS,ya,yB,yT,yC,zK,yD,yU,yb,yE,yh,yF]
  intro kp hkp
  have nkx:kp ≠ x := fun e => by rw [e,ze] at hkp; cases hkp
  rw [zf nkx] at hkp
  have nks:kp ≠ st := fun e => by rw [e,ze] at hkp; cases hkp
  rw [zf nks,zf nkx] at hkp
  simp [zf (Ne.symm nkx),ze,zt,zby,zfg,and_assoc,zp,T.st.cl,T.st.n_picture,T.st.n_wide,T.st.n_high,T.st.n_row,T.st.n_column,T.st.n_late,T.st.n_ink,T.st.n_wrap,T.st.n_putting,T.st.n_home,T.st.n_top,T.st.n_bottom,T.st.n_left,T.st.n_right,T.st.n_stops,T.st.n_kept,T.st.n_last,zI,yu,yv,yQ,z7,yw,yO,yx,zJ,yy,yR,z9,yz,yf,yg,yr,yA,yS,ya,yB,yT,yC,zK,yD,yU,yb,yE,yh,yF]
  refine .inl (h st kp _ hst hkp ze ?_ ?_ fun b h1 h2 h3 => ?_)
  · rw [zf nsx,zf (Ne.symm nks),zf nsx,ze]
  · rw [zf nkx,ze]
  · rw [zf h1,zf h3,zf h1,zf h2,zf h1]
theorem Xa (F:Fun K "__init__" "State.__init__" y7 f fd) (T:Txt P w K mg C bw) (zhz:Cal P w K mg base 3 "blank_picture" [.int 0] (zb K qu)) (zhb:CalT P w K mg base 2 "begin" C (zb K (Ve C))):FnOk P w K mg base CX0 4 f fd ["self","wide","high"] (zb K (Qu C)) := by
  apply F.okV Za (by rintro _ _ _ ⟨x,dx,w,h,rfl,_⟩; rfl) (fun cdv A outer sh H E hr => (zc (zA (K := K) rfl (pv 0) (zk zhz (hr.mono (by decide)) rfl (QA.pa (qc (pv 1) (qc (pv 2) qn)))) rfl)
      (zc (zA (K := K) rfl (pv 0) (pv 1) rfl)
      (zc (zA (K := K) rfl (pv 0) (pv 2) rfl)
      (zd (zr (zb8 zhb (hr.mono (by decide)) (pv 0))))))))
  · walk_at "ref"
  rintro _ O R ⟨x,dx,a,b,rfl,hx,a1,a2,b1,b2,h⟩
  walk_at "wd"
  refine ⟨a,b,0,rfl,a1,a2,b1,b2,fun p hp => ?_⟩
  have npx:p ≠ x := fun e => by rw [e,hx] at hp; cases hp
  simp [zf (Ne.symm npx),hx,zf3,zf4,zf5,Qw,and_assoc,zp,T.st.cl,T.st.n_picture,T.st.n_wide,T.st.n_high,T.st.n_row,T.st.n_column,T.st.n_late,T.st.n_ink,T.st.n_wrap,T.st.n_putting,T.st.n_home,T.st.n_top,T.st.n_bottom,T.st.n_left,T.st.n_right,T.st.n_stops,T.st.n_kept,T.st.n_last,zI,yu,yv,yQ,z7,yw,yO,yx,zJ,yy,yR,z9,yz,yf,yg,yr,yA,yS,ya,yB,yT,yC,zK,yD,yU,yb,yE,yh,yF]
  refine ⟨by rintro c d (⟨rfl,_⟩ | ⟨rfl,_⟩ | ⟨rfl,_⟩) <;> decide,x,dx,p,a,b,rfl,ze,a1,a2,fun st kp O' hst hkp h1 h2 h3 h4 => .inl ?_⟩
  have nsx:st ≠ x := fun e => by rw [e,ze] at hst; cases hst
  rw [zf nsx] at hst
  have nsp:st ≠ p := fun e => by rw [e,ze] at hst; cases hst
  rw [zf nsp] at hst
  have nkx:kp ≠ x := fun e => by rw [e,ze] at hkp; cases hkp
  rw [zf nkx] at hkp
  have nkp:kp ≠ p := fun e => by rw [e,ze] at hkp; cases hkp
  rw [zf nkp] at hkp
  refine h p st kp O' hp hst hkp ⟨h1,?_,h2,h3⟩ fun c q1 q2 q3 q4 => ?_
  · rw [h4 p npx (Ne.symm nsp) (Ne.symm nkp),zf npx,ze]
    rfl
  · rw [h4 c q1 q3 q4,zf q1,zf q2]
end
theorem jJ (a:Str):Str.empty ++ a = a := by
  apply UO
  rw [jd]
  rfl
theorem xT {i:Int} (h:Sh i):(Str.ofString i.repr).length ≤ 1000 := by
  obtain ⟨h1,h2⟩ := h
  have q:(toString i).length ≤ 7 + 1 := int_text_length_le10 (by decide) (show i.natAbs < 10 ^ 7 by omega)
  rw [PySem.ofString_length]
  have:i.repr.length = (toString i).length := rfl
  omega
theorem _root_.L2.StAt.keptTo {O:OM} {C x dx p st kp:Addr} {S:ST} (s:StAt O C x dx p st kp S) (ks:List KP):StAt (updO O kp (.lst ((ks.map kpT).map .d))) C x dx p st kp { S with kept := ks } :=
  ⟨by rw [zf s.xk]; exact s.x,by rw [zf s.pk]; exact s.p,by rw [zf (neW s.st s.kp (by intro h; cases h))]; exact s.st,ze⟩
section
variable {P:Program} {w:World} {K:PySem.W.Frag} {mg:Str → Option Value} {base:Heap} {f C bw:Addr} {fd:FuncData}
theorem zfr (F:Fun K "go" "go" zaI f fd) (T:Txt P w K mg C bw) (zhw:Cal P w K mg base 1 "at_least_one" [] (zb K Yw)) (zhF:Cal P w K mg base 1 "edges" [] (zb K (Vc C))):FnOk P w K mg base CX0 2 f fd ["state","letter","many"] (zb K (zaF C)) := by
  have nd := zbL.nd
  apply F.okV zbL (by rintro _ _ _ ⟨c,n,_,_,x,dx,p,st,kp,S,rfl,_⟩; rfl) (fun cdv A outer sh H E hr => (zc (zD (i := 3) nd rfl (Or.inl rfl) (zk zhw (hr.mono (by decide)) rfl (QA.pa (qc (pv 2) qn))))
      (zc (zD (i := 4) nd rfl (Or.inl rfl) (zk zhF (hr.mono (by decide)) rfl (QA.pa (qc (pv 0) qn))))
      (zc (zB (zl yM (pv 1) zg (zo _)) (zd (zA (K := K) rfl (pv 0) (yI (jY rfl) (by rfl) T.n_max (by rfl) (QA.pa (qc (zh yc (zm (K := K) rfl (pv 0) rfl) (pv 3)) (qc (yN (xC (K := K) rfl) (pv 4) za (fun _ _ => rfl)) qn)))) rfl)) (zd (zB (zl yM (pv 1) zg (zo _)) (zd (zA (K := K) rfl (pv 0) (yI (vg rfl) (by rfl) T.n_min (by rfl) (QA.pa (qc (zh yK (zm (K := K) rfl (pv 0) rfl) (pv 3)) (qc (yN (xC (K := K) rfl) (pv 4) za (fun _ _ => rfl)) qn)))) rfl)) (zd (zB (zl yM (pv 1) zg (zo _)) (zd (zA (K := K) rfl (pv 0) (yI (jY rfl) (by rfl) T.n_max (by rfl) (QA.pa (qc (zh yc (zm (K := K) rfl (pv 0) rfl) (pv 3)) (qc (yN (xC (K := K) rfl) (pv 4) za (fun _ _ => rfl)) qn)))) rfl)) (zd (zB (zl yM (pv 1) zg (zo _)) (zd (zA (K := K) rfl (pv 0) (yI (vg rfl) (by rfl) T.n_min (by rfl) (QA.pa (qc (zh yK (zm (K := K) rfl (pv 0) rfl) (pv 3)) (qc (yN (xC (K := K) rfl) (pv 4) za (fun _ _ => rfl)) qn)))) rfl)) zL)))))))
      (zd (zA (K := K) rfl (pv 0) xH rfl))))))
  · walk_at "ref"
  rintro _ O R ⟨c,n,hc,hn,x,dx,p,st,kp,S,rfl,hs,_,h⟩
  have hx := hs.x
  refine yG (fun ρ' O' => ρ' = [some (.own x),some (.d (.str ⟨#[c]⟩)),some (.d n),some (.d (.int (xc n))),none] ∧ O = O') (fun R1 hR1 => ?_) ?_
  · walk_at "wd"
    exact ⟨hn,hR1 _ _ ⟨rfl,rfl⟩⟩
  rintro _ _ ⟨rfl,rfl⟩
  refine yG (fun ρ' O' => ρ' = [some (.own x),some (.d (.str ⟨#[c]⟩)),some (.d n),some (.d (.int (xc n))),some (.d (.tuple [.int (eT S),.int (eB S),.int (eL S),.int (eR S)]))] ∧ O = O') (fun R1 hR1 => ?_) ?_
  · walk_at "wd"
    exact ⟨x,dx,p,st,kp,S,rfl,hs,hR1 _ _ ⟨rfl,rfl⟩⟩
  rintro _ _ ⟨rfl,rfl⟩
  rcases hc with rfl | rfl | rfl | rfl
  · walk_at "wd"
    simp [hx,yV,vk,vm,vn,vp,vq,vt,vv,vw,vx,vy,vz,vA,vB,vC,vD,vE,vF,vV,and_assoc,zp,T.st.cl,T.st.n_picture,T.st.n_wide,T.st.n_high,T.st.n_row,T.st.n_column,T.st.n_late,T.st.n_ink,T.st.n_wrap,T.st.n_putting,T.st.n_home,T.st.n_top,T.st.n_bottom,T.st.n_left,T.st.n_right,T.st.n_stops,T.st.n_kept,T.st.n_last,zI,yu,yv,yQ,z7,yw,yO,yx,zJ,yy,yR,z9,yz,yf,yg,yr,yA,yS,ya,yB,yT,yC,zK,yD,yU,yb,yE,yh,yF]
    exact ⟨_,rfl,.inl (h _ (hs.fld (S' := uY (goS 117 (xc n) S)) rfl rfl rfl) But.ux)⟩
  · walk_at "wd"
    simp [hx,yV,vk,vm,vn,vp,vq,vt,vv,vw,vx,vy,vz,vA,vB,vC,vD,vE,vF,vV,and_assoc,zp,T.st.cl,T.st.n_picture,T.st.n_wide,T.st.n_high,T.st.n_row,T.st.n_column,T.st.n_late,T.st.n_ink,T.st.n_wrap,T.st.n_putting,T.st.n_home,T.st.n_top,T.st.n_bottom,T.st.n_left,T.st.n_right,T.st.n_stops,T.st.n_kept,T.st.n_last,zI,yu,yv,yQ,z7,yw,yO,yx,zJ,yy,yR,z9,yz,yf,yg,yr,yA,yS,ya,yB,yT,yC,zK,yD,yU,yb,yE,yh,yF]
    exact ⟨_,rfl,.inl (h _ (hs.fld (S' := uY (goS 100 (xc n) S)) rfl rfl rfl) But.ux)⟩
  · walk_at "wd"
    simp [hx,yV,vk,vm,vn,vp,vq,vt,vv,vw,vx,vy,vz,vA,vB,vC,vD,vE,vF,vV,and_assoc,zp,T.st.cl,T.st.n_picture,T.st.n_wide,T.st.n_high,T.st.n_row,T.st.n_column,T.st.n_late,T.st.n_ink,T.st.n_wrap,T.st.n_putting,T.st.n_home,T.st.n_top,T.st.n_bottom,T.st.n_left,T.st.n_right,T.st.n_stops,T.st.n_kept,T.st.n_last,zI,yu,yv,yQ,z7,yw,yO,yx,zJ,yy,yR,z9,yz,yf,yg,yr,yA,yS,ya,yB,yT,yC,zK,yD,yU,yb,yE,yh,yF]
    exact ⟨_,rfl,.inl (h _ (hs.fld (S' := uY (goS 108 (xc n) S)) rfl rfl rfl) But.ux)⟩
  · walk_at "wd"
    simp [hx,yV,vk,vm,vn,vp,vq,vt,vv,vw,vx,vy,vz,vA,vB,vC,vD,vE,vF,vV,and_assoc,zp,T.st.cl,T.st.n_picture,T.st.n_wide,T.st.n_high,T.st.n_row,T.st.n_column,T.st.n_late,T.st.n_ink,T.st.n_wrap,T.st.n_putting,T.st.n_home,T.st.n_top,T.st.n_bottom,T.st.n_left,T.st.n_right,T.st.n_stops,T.st.n_kept,T.st.n_last,zI,yu,yv,yQ,z7,yw,yO,yx,zJ,yy,yR,z9,yz,yf,yg,yr,yA,yS,ya,yB,yT,yC,zK,yD,yU,yb,yE,yh,yF]
    exact ⟨_,rfl,.inl (h _ (hs.fld (S' := uY (goS 114 (xc n) S)) rfl rfl rfl) But.ux)⟩
theorem zc1 (F:Fun K "keep" "keep" Vy f fd) (T:Txt P w K mg C bw):FnOk P w K mg base CX0 1 f fd ["state"] (zb K (qy C xf)) := by
  apply F.okV zcX (by rintro _ _ _ ⟨x,dx,p,st,kp,S,rfl,_⟩; rfl) (fun cdv A outer sh H E hr => (zc (zr (xj (K := K) rfl PySem.F.plainAttrs_list PySem.F.slot_list_append PySem.F.type_list_append y6 (zm (K := K) rfl (pv 0) rfl) (QA.pa (qc (yq (qc (zm (K := K) rfl (pv 0) rfl) (qc (zm (K := K) rfl (pv 0) rfl) (qc (zm (K := K) rfl (pv 0) rfl) (qc (zm (K := K) rfl (pv 0) rfl) (qc (zm (K := K) rfl (pv 0) rfl) (qc (zm (K := K) rfl (pv 0) rfl) (qc (zm (K := K) rfl (pv 0) rfl) qn)))))))) qn))))
      (zd (zB (zl uI (yI (ZR (K := K) rfl) (by rfl) T.n_len (by rfl) (QA.pa (qc (zm (K := K) rfl (pv 0) rfl) qn))) (kR rfl T.g_MOST_KEPT) (zo _)) (zd (zr (xj (K := K) rfl PySem.F.plainAttrs_list PySem.F.slot_list_pop PySem.F.type_list_pop KA (zm (K := K) rfl (pv 0) rfl) (QA.pa (qc za qn))))) zL))))
  · walk_at "ref"
  rintro _ O R ⟨x,dx,p,st,kp,S,rfl,hs,hk,h⟩
  have hx := hs.x
  have hkp := hs.kp
  walk_at "wd"
  simp [hx,yV,and_assoc,zp,T.st.cl,T.st.n_picture,T.st.n_wide,T.st.n_high,T.st.n_row,T.st.n_column,T.st.n_late,T.st.n_ink,T.st.n_wrap,T.st.n_putting,T.st.n_home,T.st.n_top,T.st.n_bottom,T.st.n_left,T.st.n_right,T.st.n_stops,T.st.n_kept,T.st.n_last,zI,yu,yv,yQ,z7,yw,yO,yx,zJ,yy,yR,z9,yz,yf,yg,yr,yA,yS,ya,yB,yT,yC,zK,yD,yU,yb,yE,yh,yF]
  have hx2:∀ o,updO O kp o x = some (.ins C dx (fldW p st kp S)) := fun o => by rw [zf hs.xk]; exact hx
  refine ⟨.inl ⟨rfl,by simp [yd,hkp]⟩,_,rfl,by show 7 ≤ 1000; omega,updO O kp (.lst (((S.kept ++ [uZ S]).map kpT).map .d)),?_,C,dx,fldW p st kp S,hx2 _,T.st.cl,T.st.n_kept,_,yr,(S.kept ++ [uZ S]).length,by simp [kb,xK,yd,ze],?_⟩
  · simp only [ua,hkp]
    rw [if_pos (by simp; omega)]
    simp [uZ,kpT]
  · split
    · rename_i h8
      have e8:¬ S.kept.length < 8 := by simp at h8; omega
      refine ⟨C,dx,_,hx2 _,T.st.cl,T.st.n_kept,_,yr,.inl ⟨rfl,by simp [yd,ze]⟩,kp,rfl,_,((S.kept ++ [uZ S]).map kpT |>.map W.d)[0]'(by simp),0,rfl,ze,List.getElem?_eq_getElem _,by omega,.inl ?_⟩
      rw [zt]
      have ek:(((S.kept ++ [uZ S]).map kpT).map W.d).eraseIdx 0 = (((S.kept.drop 1) ++ [uZ S]).map kpT).map W.d := by
        cases hkk:S.kept with
        | nil => rw [hkk] at e8; simp at e8
        | cons a l => simp
      rw [ek]
      have e9:xf S = { S with kept := S.kept.drop 1 ++ [uZ S] } := by unfold xf; rw [if_neg e8]
      rw [e9] at h
      exact h _ (hs.keptTo _) (ButO.upd (by simp))
    · rename_i h8
      have e8:S.kept.length < 8 := by simp at h8; omega
      have e9:xf S = { S with kept := S.kept ++ [uZ S] } := by unfold xf; rw [if_pos e8]
      rw [e9] at h
      exact .inl (h _ (hs.keptTo _) (ButO.upd (by simp)))
theorem VH (F:Fun K "take_back" "take_back" qK f fd) (T:Txt P w K mg C bw):FnOk P w K mg base CX0 1 f fd ["state"] (zb K (qy C yX)) := by
  have nd := kz.nd
  apply F.okV kz (by rintro _ _ _ ⟨x,dx,p,st,kp,S,rfl,_⟩; rfl) (fun cdv A outer sh H E hr => (zd (zB (qr (K := K) rfl (zm (K := K) rfl (pv 0) rfl) (fun _ => rfl)) (zc (zD (i := 1) nd rfl (Or.inl rfl) (Yv (K := K) rfl PySem.F.plainAttrs_list PySem.F.slot_list_pop PySem.F.type_list_pop XO (zm (K := K) rfl (pv 0) rfl)))
      (zc (zA (K := K) rfl (pv 0) (yN (xC (K := K) rfl) (pv 1) za (fun _ _ => rfl)) rfl)
      (zc (zA (K := K) rfl (pv 0) (yN (xC (K := K) rfl) (pv 1) za (fun _ _ => rfl)) rfl)
      (zc (zA (K := K) rfl (pv 0) (yN (xC (K := K) rfl) (pv 1) za (fun _ _ => rfl)) rfl)
      (zc (zA (K := K) rfl (pv 0) (yN (xC (K := K) rfl) (pv 1) za (fun _ _ => rfl)) rfl)
      (zc (zA (K := K) rfl (pv 0) (yN (xC (K := K) rfl) (pv 1) za (fun _ _ => rfl)) rfl)
      (zc (zA (K := K) rfl (pv 0) (yN (xC (K := K) rfl) (pv 1) za (fun _ _ => rfl)) rfl)
      (zd (zA (K := K) rfl (pv 0) (yN (xC (K := K) rfl) (pv 1) za (fun _ _ => rfl)) rfl))))))))) zL)))
  · walk_at "ref"
  rintro _ O R ⟨x,dx,p,st,kp,S,rfl,hs,hk,h⟩
  have hx := hs.x
  have hkp := hs.kp
  have hx2:∀ o,updO O kp o x = some (.ins C dx (fldW p st kp S)) := fun o => by rw [zf hs.xk]; exact hx
  cases hl:S.kept[S.kept.length - 1]? with
  | none =>
    have e:S.kept = [] := by
      cases hkk:S.kept with
      | nil => rfl
      | cons a l => rw [hkk] at hl; simp at hl
    have e9:yX S = S := by unfold yX; rw [hl]
    rw [e9] at h
    walk_at "wd"
    simp [hx,hkp,e,yV,and_assoc,zp,T.st.cl,T.st.n_picture,T.st.n_wide,T.st.n_high,T.st.n_row,T.st.n_column,T.st.n_late,T.st.n_ink,T.st.n_wrap,T.st.n_putting,T.st.n_home,T.st.n_top,T.st.n_bottom,T.st.n_left,T.st.n_right,T.st.n_stops,T.st.n_kept,T.st.n_last,zI,yu,yv,yQ,z7,yw,yO,yx,zJ,yy,yR,z9,yz,yf,yg,yr,yA,yS,ya,yB,yT,yC,zK,yD,yU,yb,yE,yh,yF]
    exact .inl (h _ hs ButO.refl)
  | some k =>
    have e:¬ S.kept = [] := fun e => by rw [e] at hl; simp at hl
    walk_at "wd"
    simp [hx,hx2,hkp,e,hl,yV,and_assoc,zp,T.st.cl,T.st.n_picture,T.st.n_wide,T.st.n_high,T.st.n_row,T.st.n_column,T.st.n_late,T.st.n_ink,T.st.n_wrap,T.st.n_putting,T.st.n_home,T.st.n_top,T.st.n_bottom,T.st.n_left,T.st.n_right,T.st.n_stops,T.st.n_kept,T.st.n_last,zI,yu,yv,yQ,z7,yw,yO,yx,zJ,yy,yR,z9,yz,yf,yg,yr,yA,yS,ya,yB,yT,yC,zK,yD,yU,yb,yE,yh,yF]
    have e9:yX S = { S with row := k.row,col := k.col,late := k.late,ink := k.ink,wrap := k.wrap,putting := k.putting,home := k.home,kept := S.kept.dropLast } := by unfold yX; rw [hl]
    rw [e9] at h
    have ty:tyW "list" O (.own kp) := .inl ⟨rfl,by simp [yd,hkp]⟩
    refine ⟨ty,_,rfl,_,rfl,_,rfl,_,rfl,(by show 17 < 1000; decide),_,rfl,_,rfl,(by show 17 < 1000; decide),_,rfl,_,rfl,(by show 17 < 1000; decide),_,rfl,_,rfl,(by show 17 < 1000; decide),_,rfl,_,rfl,(by show 17 < 1000; decide),_,rfl,_,rfl,(by show 17 < 1000; decide),.inl ?_⟩
    have s1 := hs.keptTo S.kept.dropLast
    have s2 := s1.fld (S' := { S with row := k.row,col := k.col,late := k.late,ink := k.ink,wrap := k.wrap,putting := k.putting,home := k.home,kept := S.kept.dropLast }) rfl rfl rfl
    refine h _ ?_ (ButO.trans (ButO.upd (a := kp) (by simp)) (ButO.upd (a := x) (by simp)))
    have em:((S.kept.dropLast.map kpT).map W.d) = ((S.kept.map kpT).map W.d).dropLast := by simp [List.map_dropLast]
    rw [em,List.map_map] at s2
    exact s2
theorem Xb (F:Fun K "told_place" "told_place" u7 f fd) (T:Txt P w K mg C bw):FnOk P w K mg base CX0 1 f fd ["state"] (zb K (jf C plT)) := by
  have nd := jN.nd
  apply F.okV jN (by rintro _ _ _ ⟨x,dx,p,st,kp,S,rfl,_⟩; rfl) (fun cdv A outer sh H E hr => (zc (zD (i := 1) nd rfl (Or.inl rfl) (zh yK (zm (K := K) rfl (pv 0) rfl) za))
      (zc (zD (i := 2) nd rfl (Or.inl rfl) (zh yK (zm (K := K) rfl (pv 0) rfl) za))
      (zc (zB (uv (zm (K := K) rfl (pv 0) rfl)) (zc (zD (i := 1) nd rfl (Or.inl rfl) (zh yc (pv 1) (zm (K := K) rfl (pv 0) rfl)))
      (zd (zD (i := 2) nd rfl (Or.inl rfl) (zh yc (pv 2) (zm (K := K) rfl (pv 0) rfl))))) zL)
      (zd (zC (Vn (pv 1) (pv 2) (by decide))))))))
  · walk_at "ref"
  rintro _ O R ⟨x,dx,p,st,kp,S,rfl,hs,hb,h⟩
  have hx := hs.x
  walk_at "wd"
  simp [hx,yV,and_assoc,zp,T.st.cl,T.st.n_picture,T.st.n_wide,T.st.n_high,T.st.n_row,T.st.n_column,T.st.n_late,T.st.n_ink,T.st.n_wrap,T.st.n_putting,T.st.n_home,T.st.n_top,T.st.n_bottom,T.st.n_left,T.st.n_right,T.st.n_stops,T.st.n_kept,T.st.n_last,zI,yu,yv,yQ,z7,yw,yO,yx,zJ,yy,yR,z9,yz,yf,yg,yr,yA,yS,ya,yB,yT,yC,zK,yD,yU,yb,yE,yh,yF]
  have b1 := hb.r0; have b2 := hb.r1; have b3 := hb.c0; have b4 := hb.c1; have b5 := hb.t0; have b6 := hb.tb; have b7 := hb.b1; have b8 := hb.l0; have b9 := hb.lr; have b10 := hb.rr; have b11 := hb.w2; have b12 := hb.h2
  unfold plT at h
  split
  · rename_i q
    rw [if_pos q] at h
    exact ⟨by omega,by omega,xT (by constructor <;> omega),by omega,by omega,xT (by constructor <;> omega),.inl (by rw [jJ]; exact h)⟩
  · rename_i q
    rw [if_neg q] at h
    exact ⟨by omega,by omega,xT (by constructor <;> omega),by omega,by omega,xT (by constructor <;> omega),.inl (by rw [jJ]; exact h)⟩
theorem VI (F:Fun K "told_size" "told_size" qL f fd) (T:Txt P w K mg C bw):FnOk P w K mg base CX0 1 f fd ["state"] (zb K (jf C szT)) := by
  have nd := kA.nd
  apply F.okV kA (by rintro _ _ _ ⟨x,dx,p,st,kp,S,rfl,_⟩; rfl) (fun cdv A outer sh H E hr => (zc (zD (i := 1) nd rfl (Or.inl rfl) (zm (K := K) rfl (pv 0) rfl))
      (zc (zD (i := 2) nd rfl (Or.inl rfl) (zm (K := K) rfl (pv 0) rfl))
      (zd (zC (Vn (pv 1) (pv 2) (by decide)))))))
  · walk_at "ref"
  rintro _ O R ⟨x,dx,p,st,kp,S,rfl,hs,hb,h⟩
  have hx := hs.x
  walk_at "wd"
  simp [hx,yV,and_assoc,zp,T.st.cl,T.st.n_picture,T.st.n_wide,T.st.n_high,T.st.n_row,T.st.n_column,T.st.n_late,T.st.n_ink,T.st.n_wrap,T.st.n_putting,T.st.n_home,T.st.n_top,T.st.n_bottom,T.st.n_left,T.st.n_right,T.st.n_stops,T.st.n_kept,T.st.n_last,zI,yu,yv,yQ,z7,yw,yO,yx,zJ,yy,yR,z9,yz,yf,yg,yr,yA,yS,ya,yB,yT,yC,zK,yD,yU,yb,yE,yh,yF]
  have b11 := hb.w2; have b12 := hb.h2
  exact ⟨by omega,xT (by constructor <;> omega),by omega,xT (by constructor <;> omega),.inl (by rw [jJ]; exact h)⟩
end
theorem YJ {n:PyData} {a b:Int} (hn:yW n):uW n a b = if a + xO n - 1 < b then a + xO n - 1 else b := by
  unfold uW
  rw [jw hn]
  split <;> split <;> omega
theorem VJ {n:PyData} {b:Int} (hn:yW n):uW n 0 (b - 1) = if xO n < b then xO n - 1 else b - 1 := by
  rw [YJ hn]
  split <;> split <;> omega
section
variable {P:Program} {w:World} {K:PySem.W.Frag} {mg:Str → Option Value} {base:Heap} {f C bw:Addr} {fd:FuncData}
theorem Ka (F:Fun K "_law_at" "_law_at" kD f fd) (T:Txt P w K mg C bw):FnOk P w K mg base CX0 1 f fd ["_law_script","_law_k"] (zb K kW) := by
  apply F.okV QX (by rintro _ _ _ ⟨n,a,rfl,_⟩; rfl) (fun cdv A outer sh H E hr => (zc (zB (zl jp (pv 1) (yI (ZR (K := K) rfl) (by rfl) T.n_len (by rfl) (QA.pa (qc (pv 0) qn))) (zo _)) (zd (zC (yN (vH (K := K) rfl) (pv 0) (pv 1) (fun _ _ => rfl)))) zL)
      (zd (zC za))))
  · walk_at "ref"
  rintro _ O R ⟨ns,k,rfl,h⟩
  walk_at "wd"
  simp [kb,xK,yd]
  split
  · rename_i hk
    refine ⟨_,Yn (by rw [List.getElem?_map,List.getElem?_eq_getElem hk]; rfl),.inl ?_⟩
    rw [List.getD_eq_getElem?_getD,List.getElem?_eq_getElem hk] at h
    exact h
  · rename_i hk
    rw [List.getD_eq_getElem?_getD,List.getElem?_eq_none (by omega)] at h
    exact .inl h
theorem VL (F:Fun K "_law_mixed" "_law_mixed" u9 f fd) (T:Txt P w K mg C bw):FnOk P w K mg base CX0 1 f fd ["_law_cell","_law_k"] (zb K QO) := by
  have nd := jP.nd
  apply F.okV jP (by rintro _ _ _ ⟨n,a,rfl,_⟩; rfl) (fun cdv A outer sh H E hr => (zc (zD (i := 2) nd rfl (Or.inl rfl) (zh yK (zh ye (zh xZ (zh yK (pv 0) za) za) za) (zh xZ za (pv 1))))
      (zd (zC (zh yt (zh ye (zh xZ (pv 2) (zh yK za (zh xZ (zh xZ za (pv 1)) (pv 1)))) za) za)))))
  · walk_at "ref"
  rintro _ O R ⟨c,k,rfl,k0,k1,h⟩
  walk_at "wd"
  have kk0:0 ≤ k * k := Int.mul_nonneg k0 k0
  have kk1:k * k ≤ 1000 * 1000 := Int.mul_le_mul k1 k1 k0 (by decide)
  have ea:1021 * k * k = 1021 * (k * k) := Int.mul_assoc _ _ _
  have q1:IntMulOk ((c + 11) * 48271 % 2147483647 + 5 * k) (16807 + 1021 * k * k) := mulR (by omega) (by omega)
  have y0 := Int.emod_nonneg (((c + 11) * 48271 % 2147483647 + 5 * k) * (16807 + 1021 * k * k)) (show (2147483629:Int) ≠ 0 by decide)
  have y1 := Int.emod_lt_of_pos (((c + 11) * 48271 % 2147483647 + 5 * k) * (16807 + 1021 * k * k)) (show (0:Int) < 2147483629 by decide)
  refine ⟨mulR (by decide) (by decide),mulL (by decide) (by decide),mulL (by decide) (by decide),mulR (by omega) (by omega),q1,?_⟩
  generalize ((c + 11) * 48271 % 2147483647 + 5 * k) * (16807 + 1021 * k * k) % 2147483629 = y at y0 y1 ⊢
  exact ⟨⟨by omega,by omega⟩,.inl (h _ (by omega) (by omega))⟩
theorem VM (F:Fun K "_law_edges" "_law_edges" qe f fd) (T:Txt P w K mg C bw):FnOk P w K mg base CX0 1 f fd ["_law_m"] (zb K Yz) := by
  have nd := jR.nd
  apply F.okV jR (by rintro _ _ _ ⟨d,A,S,rfl,_⟩; rfl) (fun cdv A outer sh H E hr => (zc (zD (i := 1) nd rfl (Or.inl rfl) (xg (zl Xh (zj (zq hr) (pv 0) zg (fun _ _ => rfl)) (zj (zq hr) (pv 0) zg (fun _ _ => rfl)) (zo _)) (zj (zq hr) (pv 0) zg (fun _ _ => rfl)) za))
      (zc (zD (i := 2) nd rfl (Or.inl rfl) (xg (zl xI (zj (zq hr) (pv 0) zg (fun _ _ => rfl)) (zj (zq hr) (pv 0) zg (fun _ _ => rfl)) (zo _)) (zj (zq hr) (pv 0) zg (fun _ _ => rfl)) (zh yc (zj (zq hr) (pv 0) zg (fun _ _ => rfl)) za)))
      (zc (zD (i := 3) nd rfl (Or.inl rfl) (xg (zl Xh (zj (zq hr) (pv 0) zg (fun _ _ => rfl)) (zj (zq hr) (pv 0) zg (fun _ _ => rfl)) (zo _)) (zj (zq hr) (pv 0) zg (fun _ _ => rfl)) za))
      (zc (zD (i := 4) nd rfl (Or.inl rfl) (xg (zl xI (zj (zq hr) (pv 0) zg (fun _ _ => rfl)) (zj (zq hr) (pv 0) zg (fun _ _ => rfl)) (zo _)) (zj (zq hr) (pv 0) zg (fun _ _ => rfl)) (zh yc (zj (zq hr) (pv 0) zg (fun _ _ => rfl)) za)))
      (zd (zC (yq (qc (pv 1) (qc (pv 2) (qc (pv 3) (qc (pv 4) qn))))))))))))
  · walk_at "ref"
  rintro _ O R ⟨d,A,S,rfl,hd,h⟩
  refine yG (fun ρ' O' => ρ' = [some (.own d),some (.d (.int (eT S))),none,none,none] ∧ O = O') (fun R1 hR1 => ?_) ?_
  · walk_at "wd"
    simp [hd,and_assoc,zp,yj,ze,zt,zO,zP,yk,zu,zQ,yl,zR,zv,zS,ym,zw,zT,zE,zF,zU,yn,zx,zV,yo,zW,zy,zX,yp,zz,zY,zG,zH,zZ]
    split
    · rename_i e; exact hR1 _ _ ⟨by rw [eT,if_pos e],rfl⟩
    · rename_i e; exact hR1 _ _ ⟨by rw [eT,if_neg e],rfl⟩
  rintro _ _ ⟨rfl,rfl⟩
  refine yG (fun ρ' O' => ρ' = [some (.own d),some (.d (.int (eT S))),some (.d (.int (eB S))),none,none] ∧ O = O') (fun R1 hR1 => ?_) ?_
  · walk_at "wd"
    simp [hd,and_assoc,zp,yj,ze,zt,zO,zP,yk,zu,zQ,yl,zR,zv,zS,ym,zw,zT,zE,zF,zU,yn,zx,zV,yo,zW,zy,zX,yp,zz,zY,zG,zH,zZ]
    split
    · rename_i e; exact hR1 _ _ ⟨by rw [eB,if_pos e],rfl⟩
    · rename_i e; exact hR1 _ _ ⟨by rw [eB,if_neg e],rfl⟩
  rintro _ _ ⟨rfl,rfl⟩
  refine yG (fun ρ' O' => ρ' = [some (.own d),some (.d (.int (eT S))),some (.d (.int (eB S))),some (.d (.int (eL S))),none] ∧ O = O') (fun R1 hR1 => ?_) ?_
  · walk_at "wd"
    simp [hd,and_assoc,zp,yj,ze,zt,zO,zP,yk,zu,zQ,yl,zR,zv,zS,ym,zw,zT,zE,zF,zU,yn,zx,zV,yo,zW,zy,zX,yp,zz,zY,zG,zH,zZ]
    split
    · rename_i e; exact hR1 _ _ ⟨by rw [eL,if_pos e],rfl⟩
    · rename_i e; exact hR1 _ _ ⟨by rw [eL,if_neg e],rfl⟩
  rintro _ _ ⟨rfl,rfl⟩
  refine yG (fun ρ' O' => ρ' = [some (.own d),some (.d (.int (eT S))),some (.d (.int (eB S))),some (.d (.int (eL S))),some (.d (.int (eR S)))] ∧ O = O') (fun R1 hR1 => ?_) ?_
  · walk_at "wd"
    simp [hd,and_assoc,zp,yj,ze,zt,zO,zP,yk,zu,zQ,yl,zR,zv,zS,ym,zw,zT,zE,zF,zU,yn,zx,zV,yo,zW,zy,zX,yp,zz,zY,zG,zH,zZ]
    split
    · rename_i e; exact hR1 _ _ ⟨by rw [eR,if_pos e],rfl⟩
    · rename_i e; exact hR1 _ _ ⟨by rw [eR,if_neg e],rfl⟩
  rintro _ _ ⟨rfl,rfl⟩
  walk_at "wd"
  exact .inl h
theorem Xc (F:Fun K "_law_placed" "_law_placed" uF f fd) (T:Txt P w K mg C bw) (zhs:Cal P w K mg base 1 "_law_times" [] (zb K ja)):FnOk P w K mg base CX0 2 f fd ["_law_m","_law_row","_law_column"] (zb K u4) := by
  have nd := ji.nd
  apply F.okV ji (by rintro _ _ _ ⟨r,c,_,_,d,A,S,rfl,_⟩; rfl) (fun cdv A outer sh H E hr => (zc (qT (yq (qc za (qc (zh yc (zj (zq hr) (pv 0) zg (fun _ _ => rfl)) za) (qc za (qc (zh yc (zj (zq hr) (pv 0) zg (fun _ _ => rfl)) za) qn))))) (uj (K := K) (n := 4) rfl rfl (yL (zM (i := 3) nd rfl (Or.inl rfl)) (yL (zM (i := 4) nd rfl (Or.inl rfl)) (yL (zM (i := 5) nd rfl (Or.inl rfl)) (yL (zM (i := 6) nd rfl (Or.inl rfl)) ud))))))
      (zc (zB (uv (zj (zq hr) (pv 0) zg (fun _ _ => rfl))) (zd (qT (yq (qc (zj (zq hr) (pv 0) zg (fun _ _ => rfl)) (qc (zj (zq hr) (pv 0) zg (fun _ _ => rfl)) (qc (zj (zq hr) (pv 0) zg (fun _ _ => rfl)) (qc (zj (zq hr) (pv 0) zg (fun _ _ => rfl)) qn))))) (uj (K := K) (n := 4) rfl rfl (yL (zM (i := 3) nd rfl (Or.inl rfl)) (yL (zM (i := 4) nd rfl (Or.inl rfl)) (yL (zM (i := 5) nd rfl (Or.inl rfl)) (yL (zM (i := 6) nd rfl (Or.inl rfl)) ud))))))) zL)
      (zc (xy (zq hr) (pv 0) zg (yI (vg rfl) (by rfl) T.n_min (by rfl) (QA.pa (qc (pv 4) (qc (zh yc (zh yK (pv 3) (zk zhs (hr.mono (by decide)) rfl (QA.pa (qc (pv 1) qn)))) za) qn)))) rfl)
      (zc (xy (zq hr) (pv 0) zg (yI (vg rfl) (by rfl) T.n_min (by rfl) (QA.pa (qc (pv 6) (qc (zh yc (zh yK (pv 5) (zk zhs (hr.mono (by decide)) rfl (QA.pa (qc (pv 2) qn)))) za) qn)))) rfl)
      (zd (xy (zq hr) (pv 0) zg xH rfl)))))))
  · walk_at "ref"
  rintro _ O R ⟨r,c,hr,hc,d,A,S,rfl,hm,_,h⟩
  have hd := hm.d
  walk_at "wd"
  simp [hd,hr,hc,and_assoc,zp,yj,ze,zt,zO,zP,yk,zu,zQ,yl,zR,zv,zS,ym,zw,zT,zE,zF,zU,yn,zx,zV,yo,zW,zy,zX,yp,zz,zY,zG,zH,zZ]
  split
  · rename_i q
    have e:plS r c S = { S with row := if S.top + xO r - 1 < S.bottom then S.top + xO r - 1 else S.bottom,col := if S.left + xO c - 1 < S.right then S.left + xO c - 1 else S.right,late := false } := by
      unfold plS
      rw [if_pos q,YJ hr,YJ hc]
    rw [e] at h
    exact ⟨_,rfl,by show 4 ≤ 1000; omega,rfl,_,_,rfl,_,_,rfl,_,_,rfl,_,_,rfl,rfl,.inl (h _ hm.fld (ButO.upd (by simp)))⟩
  · rename_i q
    have e:plS r c S = { S with row := if xO r < S.h then xO r - 1 else S.h - 1,col := if xO c < S.w then xO c - 1 else S.w - 1,late := false } := by
      unfold plS
      rw [if_neg q,VJ hr,VJ hc]
    rw [e] at h
    exact .inl (h _ hm.fld (ButO.upd (by simp)))
end
theorem zaK {c:Nat} {S:ST} (h:Bds S):goS c 0 S = S := by
  have t := Xw h; have b := Xx h; have l := Xy h; have r := Xt h
  unfold goS
  repeat' split
  all_goals first | rfl | (exfalso; omega) | simp
theorem zf9 {S:ST} {i:Int} (h:Bds S) (hi:0 ≤ i) (q:eT S < (goS 117 i S).row):{ goS 117 i S with row := (goS 117 i S).row - 1 } = goS 117 (i + 1) S := by
  have t := Xw h
  have e:∀ j:Int,goS 117 j S = { S with row := if eT S > S.row - j then eT S else S.row - j } := fun j => rfl
  rw [e,e] at *
  simp only at q ⊢
  congr 1
  split at q <;> rename_i z
  · omega
  · rw [if_neg z,if_neg (by omega)]
    omega
theorem zfs {S:ST} {i:Int} (h:Bds S) (hi:0 ≤ i) (q:¬ eT S < (goS 117 i S).row):goS 117 i S = goS 117 (i + 1) S := by
  have t := Xw h
  have e:∀ j:Int,goS 117 j S = { S with row := if eT S > S.row - j then eT S else S.row - j } := fun j => rfl
  rw [e,e] at *
  simp only at q ⊢
  congr 1
  split at q <;> rename_i z
  · rw [if_pos z,if_pos (by omega)]
  · rw [if_neg z]
    split <;> omega
theorem zga {S:ST} {i:Int} (h:Bds S) (hi:0 ≤ i) (q:(goS 100 i S).row < eB S):{ goS 100 i S with row := (goS 100 i S).row + 1 } = goS 100 (i + 1) S := by
  have t := Xx h
  have e:∀ j:Int,goS 100 j S = { S with row := if eB S < S.row + j then eB S else S.row + j } := fun j => rfl
  rw [e,e] at *
  simp only at q ⊢
  congr 1
  split at q <;> rename_i z
  · omega
  · rw [if_neg z,if_neg (by omega)]
    omega
theorem zft {S:ST} {i:Int} (h:Bds S) (hi:0 ≤ i) (q:¬ (goS 100 i S).row < eB S):goS 100 i S = goS 100 (i + 1) S := by
  have t := Xx h
  have e:∀ j:Int,goS 100 j S = { S with row := if eB S < S.row + j then eB S else S.row + j } := fun j => rfl
  rw [e,e] at *
  simp only at q ⊢
  congr 1
  split at q <;> rename_i z
  · rw [if_pos z,if_pos (by omega)]
  · rw [if_neg z]
    split <;> omega
theorem zgb {S:ST} {i:Int} (h:Bds S) (hi:0 ≤ i) (q:eL S < (goS 108 i S).col):{ goS 108 i S with col := (goS 108 i S).col - 1 } = goS 108 (i + 1) S := by
  have t := Xy h
  have e:∀ j:Int,goS 108 j S = { S with col := if eL S > S.col - j then eL S else S.col - j } := fun j => rfl
  rw [e,e] at *
  simp only at q ⊢
  congr 1
  split at q <;> rename_i z
  · omega
  · rw [if_neg z,if_neg (by omega)]
    omega
theorem zfu {S:ST} {i:Int} (h:Bds S) (hi:0 ≤ i) (q:¬ eL S < (goS 108 i S).col):goS 108 i S = goS 108 (i + 1) S := by
  have t := Xy h
  have e:∀ j:Int,goS 108 j S = { S with col := if eL S > S.col - j then eL S else S.col - j } := fun j => rfl
  rw [e,e] at *
  simp only at q ⊢
  congr 1
  split at q <;> rename_i z
  · rw [if_pos z,if_pos (by omega)]
  · rw [if_neg z]
    split <;> omega
theorem zgc {S:ST} {i:Int} (h:Bds S) (hi:0 ≤ i) (q:(goS 114 i S).col < eR S):{ goS 114 i S with col := (goS 114 i S).col + 1 } = goS 114 (i + 1) S := by
  have t := Xt h
  have e:∀ j:Int,goS 114 j S = { S with col := if eR S < S.col + j then eR S else S.col + j } := fun j => rfl
  rw [e,e] at *
  simp only at q ⊢
  congr 1
  split at q <;> rename_i z
  · omega
  · rw [if_neg z,if_neg (by omega)]
    omega
theorem zfv {S:ST} {i:Int} (h:Bds S) (hi:0 ≤ i) (q:¬ (goS 114 i S).col < eR S):goS 114 i S = goS 114 (i + 1) S := by
  have t := Xt h
  have e:∀ j:Int,goS 114 j S = { S with col := if eR S < S.col + j then eR S else S.col + j } := fun j => rfl
  rw [e,e] at *
  simp only at q ⊢
  congr 1
  split at q <;> rename_i z
  · rw [if_pos z,if_pos (by omega)]
  · rw [if_neg z]
    split <;> omega
theorem zgd {c:Nat}:((⟨#[c]⟩:Str) = Str.ofString "u") = (c = 117) := by rw [show Str.ofString "u" = ⟨#[117]⟩ from by decide +kernel]; simp
theorem zge {c:Nat}:((⟨#[c]⟩:Str) = Str.ofString "d") = (c = 100) := by rw [show Str.ofString "d" = ⟨#[100]⟩ from by decide +kernel]; simp
theorem zgf {c:Nat}:((⟨#[c]⟩:Str) = Str.ofString "l") = (c = 108) := by rw [show Str.ofString "l" = ⟨#[108]⟩ from by decide +kernel]; simp
theorem zgg {c:Nat}:((⟨#[c]⟩:Str) = Str.ofString "r") = (c = 114) := by rw [show Str.ofString "r" = ⟨#[114]⟩ from by decide +kernel]; simp
theorem k7 {p q:Prop} [Decidable p] [Decidable q] {R:Bool → OM → Prop} {O:OM} (h:R (decide (p ∧ q)) O):if p then R (decide q) O else R false O := by
  split
  · rename_i e
    rw [show decide (p ∧ q) = decide q from decide_eq_decide.2 ⟨fun z => z.2,fun z => ⟨e,z⟩⟩] at h
    exact h
  · rename_i e
    rw [show decide (p ∧ q) = false from decide_eq_false (fun z => e z.1)] at h
    exact h
noncomputable def Q4 (c:Nat) (S S0:ST):ST :=
  let S1:ST := if c = 117 ∧ eT S < S0.row then { S0 with row := S0.row - 1 } else S0
  let S2:ST := if c = 100 ∧ S1.row < eB S then { S1 with row := S1.row + 1 } else S1
  let S3:ST := if c = 108 ∧ eL S < S2.col then { S2 with col := S2.col - 1 } else S2
  if c = 114 ∧ S3.col < eR S then { S3 with col := S3.col + 1 } else S3
theorem zc2 {c:Nat} {S:ST} {i:Int} (h:Bds S) (hi:0 ≤ i) (hc:ltr c):Q4 c S (goS c i S) = goS c (i + 1) S := by
  unfold Q4
  rcases hc with rfl | rfl | rfl | rfl
  · by_cases q:eT S < (goS 117 i S).row
    · simp [q]; exact zf9 h hi q
    · simp [q]; exact zfs h hi q
  · by_cases q:(goS 100 i S).row < eB S
    · simp [q]; exact zga h hi q
    · simp [q]; exact zft h hi q
  · by_cases q:eL S < (goS 108 i S).col
    · simp [q]; exact zgb h hi q
    · simp [q]; exact zfu h hi q
  · by_cases q:(goS 114 i S).col < eR S
    · simp [q]; exact zgc h hi q
    · simp [q]; exact zfv h hi q
section
variable {P:Program} {w:World} {K:PySem.W.Frag} {mg:Str → Option Value} {base:Heap} {f C bw:Addr} {fd:FuncData}
theorem YL (F:Fun K "_law_stepped" "_law_stepped" ur f fd) (T:Txt P w K mg C bw) (zhj:Cal P w K mg base 1 "_law_edges" [] (zb K Yz)) (zhs:Cal P w K mg base 1 "_law_times" [] (zb K ja)):FnOk P w K mg base CX0 2 f fd ["_law_m","_law_letter","_law_many"] (zb K km) := by
  have nd := qA.nd
  apply F.okV qA (by rintro _ _ _ ⟨c,n,_,_,d,A,S,rfl,_⟩; rfl) (fun cdv A outer sh H E hr => (zc (qT (zk zhj (hr.mono (by decide)) rfl (QA.pa (qc (pv 0) qn))) (uj (K := K) (n := 4) rfl rfl (yL (zM (i := 3) nd rfl (Or.inl rfl)) (yL (zM (i := 4) nd rfl (Or.inl rfl)) (yL (zM (i := 5) nd rfl (Or.inl rfl)) (yL (zM (i := 6) nd rfl (Or.inl rfl)) ud))))))
      (zc (vZ PassesOwn.never rfl (uw rfl T.n_range (QA.pa (qc (zk zhs (hr.mono (by decide)) rfl (QA.pa (qc (pv 2) qn))) qn))) (zM (i := 7) nd rfl (Or.inl rfl))
      (zc (zB (PW.pt (qS (zl yM (pv 1) zg (zo _)) (qR (zl uI (zj (zq hr) (pv 0) zg (fun _ _ => rfl)) (pv 3) (zo _))))) (zd (xy (zq hr) (pv 0) zg (zh yc (zj (zq hr) (pv 0) zg (fun _ _ => rfl)) za) rfl)) zL)
      (zc (zB (PW.pt (qS (zl yM (pv 1) zg (zo _)) (qR (zl jp (zj (zq hr) (pv 0) zg (fun _ _ => rfl)) (pv 4) (zo _))))) (zd (xy (zq hr) (pv 0) zg (zh yK (zj (zq hr) (pv 0) zg (fun _ _ => rfl)) za) rfl)) zL)
      (zc (zB (PW.pt (qS (zl yM (pv 1) zg (zo _)) (qR (zl uI (zj (zq hr) (pv 0) zg (fun _ _ => rfl)) (pv 5) (zo _))))) (zd (xy (zq hr) (pv 0) zg (zh yc (zj (zq hr) (pv 0) zg (fun _ _ => rfl)) za) rfl)) zL)
      (zd (zB (PW.pt (qS (zl yM (pv 1) zg (zo _)) (qR (zl jp (zj (zq hr) (pv 0) zg (fun _ _ => rfl)) (pv 6) (zo _))))) (zd (xy (zq hr) (pv 0) zg (zh yK (zj (zq hr) (pv 0) zg (fun _ _ => rfl)) za) rfl)) zL))))))
      (zd (xy (zq hr) (pv 0) zg xH rfl)))))
  · walk_at "ref"
  rintro _ O R ⟨c,n,hc,hn,d,A,S,rfl,hm,hb,h⟩
  have hd := hm.d
  refine yG (fun ρ' O' => ρ' = [some (.own d),some (.d (.str ⟨#[c]⟩)),some (.d n),some (.d (.int (eT S))),some (.d (.int (eB S))),some (.d (.int (eL S))),some (.d (.int (eR S))),none] ∧ O = O') (fun R1 hR1 => ?_) ?_
  · walk_at "wd"
    exact ⟨d,A,S,rfl,hd,_,rfl,rfl,_,_,rfl,_,_,rfl,_,_,rfl,_,_,rfl,rfl,hR1 _ _ ⟨rfl,rfl⟩⟩
  rintro _ _ ⟨rfl,rfl⟩
  refine yG (fun ρ' O' => ∃ v,ρ' = [some (.own d),some (.d (.str ⟨#[c]⟩)),some (.d n),some (.d (.int (eT S))),some (.d (.int (eB S))),some (.d (.int (eL S))),some (.d (.int (eR S))),v] ∧ MAt O' d A (goS c (xc n) S) ∧ ButO O O' [d]) (fun R1 hR1 => ?_) ?_
  · walk_at "wd"
    rw [jw hn]
    have o1 := qZ (n := n)
    have o2 := zcB hn
    refine ⟨hn,by omega,by omega,?_⟩
    refine xV.rng (f := fun i => (i:Int)) (fun i ρ O' => ∃ v,ρ = [some (.own d),some (.d (.str ⟨#[c]⟩)),some (.d n),some (.d (.int (eT S))),some (.d (.int (eB S))),some (.d (.int (eL S))),some (.d (.int (eR S))),v] ∧ MAt O' d A (goS c i S) ∧ ButO O O' [d]) ⟨_,rfl,by rw [show ((0:Nat):Int) = 0 from rfl,zaK hb]; exact hm,ButO.refl⟩ ?_ ?_
    · rintro i _ O1 hi ⟨v,rfl,hm1,hb1⟩ R2 hR2
      have hd1 := hm1.d
      have fin:∀ S' O',MAt O' d A S' → ButO O O' [d] → S' = goS c ((i:Int) + 1) S → R2 [some (.own d),some (.d (.str ⟨#[c]⟩)),some (.d n),some (.d (.int (eT S))),some (.d (.int (eB S))),some (.d (.int (eL S))),some (.d (.int (eR S))),some (.d (.int (i:Int)))] O' := fun S' O' e1 e2 e3 => hR2 _ _ ⟨_,rfl,by rw [show ((i + 1:Nat):Int) = (i:Int) + 1 by omega,← e3]; exact e1,e2⟩
      have step := zc2 (c := c) (i := (i:Int)) hb (by omega) hc
      simp only [Q4] at step
      generalize goS c (i:Int) S = S0 at hm1 hd1 step
      refine yG (fun ρ' O' => ρ' = [some (.own d),some (.d (.str ⟨#[c]⟩)),some (.d n),some (.d (.int (eT S))),some (.d (.int (eB S))),some (.d (.int (eL S))),some (.d (.int (eR S))),some (.d (.int (i:Int)))] ∧ MAt O' d A (if c = 117 ∧ eT S < S0.row then { S0 with row := S0.row - 1 } else S0) ∧ ButO O O' [d]) (fun R3 hR3 => ?_) ?_
      · refine xq (c = 117 ∧ eT S < S0.row) (fun R4 hR4 => ?_) (fun e => ?_) (fun e => ?_)
        · walk_at "wd"
          simp [hd1,zgd,and_assoc,zp,yj,ze,zt,zO,zP,yk,zu,zQ,yl,zR,zv,zS,ym,zw,zT,zE,zF,zU,yn,zx,zV,yo,zW,zy,zX,yp,zz,zY,zG,zH,zZ]
          exact k7 hR4
        · walk_at "wd"
          simp [hd1,and_assoc,zp,yj,ze,zt,zO,zP,yk,zu,zQ,yl,zR,zv,zS,ym,zw,zT,zE,zF,zU,yn,zx,zV,yo,zW,zy,zX,yp,zz,zY,zG,zH,zZ]
          exact hR3 _ _ ⟨rfl,by rw [if_pos e]; exact hm1.fld,hb1.trans (ButO.upd (by simp))⟩
        · walk_at "wd"
          exact hR3 _ _ ⟨rfl,by rw [if_neg e]; exact hm1,hb1⟩
      rintro _ O2 ⟨rfl,hm2,hb2⟩
      generalize (if c = 117 ∧ eT S < S0.row then { S0 with row := S0.row - 1 } else S0) = S1 at hm2 step
      have hd2 := hm2.d
      refine yG (fun ρ' O' => ρ' = [some (.own d),some (.d (.str ⟨#[c]⟩)),some (.d n),some (.d (.int (eT S))),some (.d (.int (eB S))),some (.d (.int (eL S))),some (.d (.int (eR S))),some (.d (.int (i:Int)))] ∧ MAt O' d A (if c = 100 ∧ S1.row < eB S then { S1 with row := S1.row + 1 } else S1) ∧ ButO O O' [d]) (fun R3 hR3 => ?_) ?_
      · refine xq (c = 100 ∧ S1.row < eB S) (fun R4 hR4 => ?_) (fun e => ?_) (fun e => ?_)
        · walk_at "wd"
          simp [hd2,zge,and_assoc,zp,yj,ze,zt,zO,zP,yk,zu,zQ,yl,zR,zv,zS,ym,zw,zT,zE,zF,zU,yn,zx,zV,yo,zW,zy,zX,yp,zz,zY,zG,zH,zZ]
          exact k7 hR4
        · walk_at "wd"
          simp [hd2,and_assoc,zp,yj,ze,zt,zO,zP,yk,zu,zQ,yl,zR,zv,zS,ym,zw,zT,zE,zF,zU,yn,zx,zV,yo,zW,zy,zX,yp,zz,zY,zG,zH,zZ]
          exact hR3 _ _ ⟨rfl,by rw [if_pos e]; exact hm2.fld,hb2.trans (ButO.upd (by simp))⟩
        · walk_at "wd"
          exact hR3 _ _ ⟨rfl,by rw [if_neg e]; exact hm2,hb2⟩
      rintro _ O3 ⟨rfl,hm3,hb3⟩
      generalize (if c = 100 ∧ S1.row < eB S then { S1 with row := S1.row + 1 } else S1) = S2 at hm3 step
      have hd3 := hm3.d
      refine yG (fun ρ' O' => ρ' = [some (.own d),some (.d (.str ⟨#[c]⟩)),some (.d n),some (.d (.int (eT S))),some (.d (.int (eB S))),some (.d (.int (eL S))),some (.d (.int (eR S))),some (.d (.int (i:Int)))] ∧ MAt O' d A (if c = 108 ∧ eL S < S2.col then { S2 with col := S2.col - 1 } else S2) ∧ ButO O O' [d]) (fun R3 hR3 => ?_) ?_
      · refine xq (c = 108 ∧ eL S < S2.col) (fun R4 hR4 => ?_) (fun e => ?_) (fun e => ?_)
        · walk_at "wd"
          simp [hd3,zgf,and_assoc,zp,yj,ze,zt,zO,zP,yk,zu,zQ,yl,zR,zv,zS,ym,zw,zT,zE,zF,zU,yn,zx,zV,yo,zW,zy,zX,yp,zz,zY,zG,zH,zZ]
          exact k7 hR4
        · walk_at "wd"
          simp [hd3,and_assoc,zp,yj,ze,zt,zO,zP,yk,zu,zQ,yl,zR,zv,zS,ym,zw,zT,zE,zF,zU,yn,zx,zV,yo,zW,zy,zX,yp,zz,zY,zG,zH,zZ]
          exact hR3 _ _ ⟨rfl,by rw [if_pos e]; exact hm3.fld,hb3.trans (ButO.upd (by simp))⟩
        · walk_at "wd"
          exact hR3 _ _ ⟨rfl,by rw [if_neg e]; exact hm3,hb3⟩
      rintro _ O4 ⟨rfl,hm4,hb4⟩
      generalize (if c = 108 ∧ eL S < S2.col then { S2 with col := S2.col - 1 } else S2) = S3 at hm4 step
      have hd4 := hm4.d
      refine xq (c = 114 ∧ S3.col < eR S) (fun R4 hR4 => ?_) (fun e => ?_) (fun e => ?_)
      · walk_at "wd"
        simp [hd4,zgg,and_assoc,zp,yj,ze,zt,zO,zP,yk,zu,zQ,yl,zR,zv,zS,ym,zw,zT,zE,zF,zU,yn,zx,zV,yo,zW,zy,zX,yp,zz,zY,zG,zH,zZ]
        exact k7 hR4
      · rw [if_pos e] at step
        walk_at "wd"
        simp [hd4,and_assoc,zp,yj,ze,zt,zO,zP,yk,zu,zQ,yl,zR,zv,zS,ym,zw,zT,zE,zF,zU,yn,zx,zV,yo,zW,zy,zX,yp,zz,zY,zG,zH,zZ]
        exact fin _ _ hm4.fld (hb4.trans (ButO.upd (by simp))) step
      · rw [if_neg e] at step
        walk_at "wd"
        exact fin _ _ hm4 hb4 step
    · rintro ρ O1 ⟨v,rfl,hm1,hb1⟩
      rw [show (((xc n).toNat:Nat):Int) = xc n by omega] at hm1
      exact hR1 _ _ ⟨_,rfl,hm1,hb1⟩
  rintro _ O1 ⟨v,rfl,hm1,hb1⟩
  have hd1 := hm1.d
  walk_at "wd"
  simp [hd1,and_assoc,zp,yj,ze,zt,zO,zP,yk,zu,zQ,yl,zR,zv,zS,ym,zw,zT,zE,zF,zU,yn,zx,zV,yo,zW,zy,zX,yp,zz,zY,zG,zH,zZ]
  exact .inl (h _ hm1.fld (hb1.trans (ButO.upd (by simp))))
end
section
variable {P:Program} {w:World} {K:PySem.W.Frag} {mg:Str → Option Value} {base:Heap} {f C bw:Addr} {fd:FuncData}
seal L2.PE L2.PS L2.PSs L2.PT L2.PA in
theorem Uk (F:Fun K "_law_size" "_law_size" qM f fd) (T:Txt P w K mg C bw):FnOk P w K mg base CX0 1 f fd ["_law_cell"] (zb K Vs) := by
  have nd := kE.nd
  apply F.okV kE (by rintro _ _ _ ⟨n,rfl,_⟩; rfl) (fun cdv A outer sh H E hr => (zc (zD (i := 1) nd rfl (Or.inl rfl) (yN (vH (K := K) rfl) (xx (qc (zh yK za (zh ye (pv 0) za)) (qc (zh yK za (zh ye (pv 0) za)) (qc (zh yK za (zh ye (pv 0) za)) (qc za qn))))) (zh ye (zh yt (pv 0) za) za) (fun _ _ => rfl)))
      (zd (zC (yq (qc (pv 1) (qc (yN (vH (K := K) rfl) (xx (qc (zh yK za (zh ye (zh yt (pv 0) za) za)) (qc (zh yK za (zh ye (zh yt (pv 0) za) za)) (qc (zh yK za (zh ye (zh yt (pv 0) za) za)) qn)))) (zh ye (zh yt (pv 0) za) za) (fun _ _ => rfl)) qn)))))))
  · walk_at "ref"
  rintro _ O R ⟨c,rfl,c0,h⟩
  walk_at "wd"
  obtain ⟨wv,w0,w1,hwv⟩:∃ wv:Nat,1 ≤ wv ∧ wv ≤ 24 ∧ atI ([PyData.int (1 + c % 24),PyData.int (2 + c % 7),PyData.int (5 + c % 5),PyData.int 9].map W.d) (c / 24 % 4) = some (.d (.int wv)) := by
    rcases (by omega:c / 24 % 4 = 0 ∨ c / 24 % 4 = 1 ∨ c / 24 % 4 = 2 ∨ c / 24 % 4 = 3) with e | e | e | e <;> rw [e]
    · exact ⟨(1 + c % 24).toNat,by omega,by omega,by rw [show (((1 + c % 24).toNat:Nat):Int) = 1 + c % 24 by omega]; rfl⟩
    · exact ⟨(2 + c % 7).toNat,by omega,by omega,by rw [show (((2 + c % 7).toNat:Nat):Int) = 2 + c % 7 by omega]; rfl⟩
    · exact ⟨(5 + c % 5).toNat,by omega,by omega,by rw [show (((5 + c % 5).toNat:Nat):Int) = 5 + c % 5 by omega]; rfl⟩
    · exact ⟨9,by omega,by omega,rfl⟩
  obtain ⟨hv,v0,v1,hhv⟩:∃ hv:Nat,1 ≤ hv ∧ hv ≤ 12 ∧ atI ([PyData.int (1 + c / 96 % 12),PyData.int (1 + c / 96 % 4),PyData.int (3 + c / 96 % 3)].map W.d) (c / 1152 % 3) = some (.d (.int hv)) := by
    rcases (by omega:c / 1152 % 3 = 0 ∨ c / 1152 % 3 = 1 ∨ c / 1152 % 3 = 2) with e | e | e <;> rw [e]
    · exact ⟨(1 + c / 96 % 12).toNat,by omega,by omega,by rw [show (((1 + c / 96 % 12).toNat:Nat):Int) = 1 + c / 96 % 12 by omega]; rfl⟩
    · exact ⟨(1 + c / 96 % 4).toNat,by omega,by omega,by rw [show (((1 + c / 96 % 4).toNat:Nat):Int) = 1 + c / 96 % 4 by omega]; rfl⟩
    · exact ⟨(3 + c / 96 % 3).toNat,by omega,by omega,by rw [show (((3 + c / 96 % 3).toNat:Nat):Int) = 3 + c / 96 % 3 by omega]; rfl⟩
  exact ⟨⟨by omega,by omega⟩,_,rfl,_,hwv,⟨by omega,by omega⟩,⟨by omega,by omega⟩,_,rfl,_,hhv,_,rfl,by show 2 ≤ 1000; omega,.inl (h wv hv w0 w1 v0 v1)⟩
seal L2.PE L2.PS L2.PSs L2.PT L2.PA in
theorem Xd (F:Fun K "_law_number" "_law_number" uE f fd) (T:Txt P w K mg C bw):FnOk P w K mg base CX0 1 f fd ["_law_cell"] (zb K QP) := by
  apply F.okV YF (by rintro _ _ _ ⟨n,rfl,_⟩; rfl) (fun cdv A outer sh H E hr => (zd (zC (yN (vH (K := K) rfl) (kS rfl) (zh ye (pv 0) za) (fun _ _ => rfl)))))
  · walk_at "ref"
  rintro _ O R ⟨c,rfl,c0,h⟩
  walk_at "wd"
  refine ⟨_,rfl,?_⟩
  rcases (by omega:c % 16 = 0 ∨ c % 16 = 1 ∨ c % 16 = 2 ∨ c % 16 = 3 ∨ c % 16 = 4 ∨ c % 16 = 5 ∨ c % 16 = 6 ∨ c % 16 = 7 ∨ c % 16 = 8 ∨ c % 16 = 9 ∨ c % 16 = 10 ∨ c % 16 = 11 ∨ c % 16 = 12 ∨ c % 16 = 13 ∨ c % 16 = 14 ∨ c % 16 = 15) with e | e | e | e | e | e | e | e | e | e | e | e | e | e | e | e <;> rw [e] <;> first | exact ⟨_,rfl,.inl (h _ trivial)⟩ | exact ⟨_,rfl,.inl (h _ ⟨by decide,by decide⟩)⟩
end
section
variable {P:Program} {w:World} {K:PySem.W.Frag} {mg:Str → Option Value} {base:Heap} {f C bw:Addr} {fd:FuncData}
theorem Xe (F:Fun K "_law_window" "_law_window" uG f fd) (T:Txt P w K mg C bw) (zhs:Cal P w K mg base 1 "_law_times" [] (zb K ja)) (zhp:Cal P w K mg base 2 "_law_placed" [] (zb K u4)):FnOk P w K mg base CX0 3 f fd ["_law_m","_law_letter","_law_first","_law_last"] (zb K jD) := by
  have nd := jj.nd
  apply F.okV jj (by rintro _ _ _ ⟨c,a,b,_,_,_,d,A,S,rfl,_⟩; rfl) (fun cdv A outer sh H E hr => (zc (zD (i := 4) nd rfl (Or.inl rfl) (xg (zl yM (pv 1) zg (zo _)) (zj (zq hr) (pv 0) zg (fun _ _ => rfl)) (zj (zq hr) (pv 0) zg (fun _ _ => rfl))))
      (zc (zD (i := 5) nd rfl (Or.inl rfl) (xg (zl yM (pv 1) zg (zo _)) (xx (qc zg (qc zg qn))) (xx (qc zg (qc zg qn)))))
      (zc (zD (i := 6) nd rfl (Or.inl rfl) (xg (zl (qq (K := K) rfl) (pv 3) (yq (qc yJ (qc za qn))) (by with_unfolding_all rfl)) (pv 4) (yI (vg rfl) (by rfl) T.n_min (by rfl) (QA.pa (qc (pv 3) (qc (pv 4) qn))))))
      (zd (zB (zl xI (zk zhs (hr.mono (by decide)) rfl (QA.pa (qc (pv 2) qn))) (pv 6) (zo _)) (zc (xy (zq hr) (pv 0) (yN (vH (K := K) rfl) (pv 5) za (fun _ _ => rfl)) (zh yc (zk zhs (hr.mono (by decide)) rfl (QA.pa (qc (pv 2) qn))) za) rfl)
      (zc (xy (zq hr) (pv 0) (yN (vH (K := K) rfl) (pv 5) za (fun _ _ => rfl)) (zh yc (pv 6) za) rfl)
      (zd (zr (zk zhp (hr.mono (by decide)) rfl (QA.pa (qc (pv 0) (qc yJ (qc yJ qn))))))))) zL))))))
  · walk_at "ref"
  rintro _ O R ⟨c,a,b,hc,ha,hb,d,A,S,rfl,hm,_,h⟩
  have hd := hm.d
  rcases hc with rfl | rfl
  · refine zbx (fun ρ' O' => ρ' = [some (.own d),some (.d (.str ⟨#[109]⟩)),some (.d a),some (.d b),some (.d (.int S.h)),some (.d (.list [.str (Str.ofString "top"),.str (Str.ofString "bottom")])),some (.d (.int (xm b S.h)))] ∧ O = O') (fun R1 hR1 => ?_) ?_
    · rcases hb.cs with rfl | ⟨i,rfl,i0,i1⟩
      · walk_at "wd"
        simp [hd,vk,vm,vn,vp,vq,vt,vv,vw,vx,vy,vz,vA,vB,vC,vD,vE,vF,vV,and_assoc,zp,yj,ze,zt,zO,zP,yk,zu,zQ,yl,zR,zv,zS,ym,zw,zT,zE,zF,zU,yn,zx,zV,yo,zW,zy,zX,yp,zz,zY,zG,zH,zZ]
        refine ⟨_,rfl,by simp,?_⟩
        exact ⟨rfl,hR1 _ _ ⟨rfl,rfl⟩⟩
      · walk_at "wd"
        simp [hd,vk,vm,vn,vp,vq,vt,vv,vw,vx,vy,vz,vA,vB,vC,vD,vE,vF,vV,and_assoc,zp,yj,ze,zt,zO,zP,yk,zu,zQ,yl,zR,zv,zS,ym,zw,zT,zE,zF,zU,yn,zx,zV,yo,zW,zy,zX,yp,zz,zY,zG,zH,zZ]
        have e:inV (V.int i) (List.map vOf [.none,.int 0]) = decide (i = 0) := by
          simp [inV,eqV,vOf]
          by_cases q:i = 0
          · subst q; rfl
          · rw [decide_eq_false q]; exact beq_false_of_ne (Ne.symm q)
        refine ⟨_,rfl,by simp,?_⟩
        rw [e]
        by_cases q:i = 0
        · rw [if_pos (by simp [q])]
          exact hR1 _ _ ⟨by simp [xm,q],rfl⟩
        · rw [if_neg (by simp [q])]
          refine hR1 _ _ ⟨?_,rfl⟩
          have:xm (.int i) S.h = if (S.h:Int) < i then (S.h:Int) else i := by simp [xm,q]
          rw [this]
    rintro _ _ ⟨rfl,rfl⟩
    walk_at "wd"
    simp [hd,ha,and_assoc,zp,yj,ze,zt,zO,zP,yk,zu,zQ,yl,zR,zv,zS,ym,zw,zT,zE,zF,zU,yn,zx,zV,yo,zW,zy,zX,yp,zz,zY,zG,zH,zZ]
    have hto := jw ha
    split
    · rename_i q
      have e:u5 109 a b S = plS .none .none { S with top := xO a - 1,bottom := xm b S.h - 1 } := by
        unfold u5 xJ
        first | rw [if_pos rfl] | rw [if_neg (by decide)]
        rw [if_neg (by omega),hto]
      rw [e] at h
      have m1 := hm.fld (S' := { S with top := xO a - 1,bottom := xm b S.h - 1 })
      refine ⟨_,rfl,_,rfl,_,hd,by show 15 < 1000; decide,_,rfl,_,rfl,_,ze,by show 15 < 1000; decide,.none,.none,trivial,trivial,d,A,{ S with top := xO a - 1,bottom := xm b S.h - 1 },rfl,?_,trivial,fun O' g1 g2 => .inl (h _ g1 (ButO.trans (ButO.trans (ButO.upd (by simp)) (ButO.upd (by simp))) g2))⟩
      rw [zt]
      exact m1
    · rename_i q
      have e:u5 109 a b S = S := by
        unfold u5 xJ
        first | rw [if_pos rfl] | rw [if_neg (by decide)]
        rw [if_pos (by omega)]
      rw [e] at h
      exact .inl (h _ hm ButO.refl)
  · refine zbx (fun ρ' O' => ρ' = [some (.own d),some (.d (.str ⟨#[77]⟩)),some (.d a),some (.d b),some (.d (.int S.w)),some (.d (.list [.str (Str.ofString "left"),.str (Str.ofString "right")])),some (.d (.int (xm b S.w)))] ∧ O = O') (fun R1 hR1 => ?_) ?_
    · rcases hb.cs with rfl | ⟨i,rfl,i0,i1⟩
      · walk_at "wd"
        simp [hd,vk,vm,vn,vp,vq,vt,vv,vw,vx,vy,vz,vA,vB,vC,vD,vE,vF,vV,and_assoc,zp,yj,ze,zt,zO,zP,yk,zu,zQ,yl,zR,zv,zS,ym,zw,zT,zE,zF,zU,yn,zx,zV,yo,zW,zy,zX,yp,zz,zY,zG,zH,zZ]
        refine ⟨_,rfl,by simp,?_⟩
        exact ⟨rfl,hR1 _ _ ⟨rfl,rfl⟩⟩
      · walk_at "wd"
        simp [hd,vk,vm,vn,vp,vq,vt,vv,vw,vx,vy,vz,vA,vB,vC,vD,vE,vF,vV,and_assoc,zp,yj,ze,zt,zO,zP,yk,zu,zQ,yl,zR,zv,zS,ym,zw,zT,zE,zF,zU,yn,zx,zV,yo,zW,zy,zX,yp,zz,zY,zG,zH,zZ]
        have e:inV (V.int i) (List.map vOf [.none,.int 0]) = decide (i = 0) := by
          simp [inV,eqV,vOf]
          by_cases q:i = 0
          · subst q; rfl
          · rw [decide_eq_false q]; exact beq_false_of_ne (Ne.symm q)
        refine ⟨_,rfl,by simp,?_⟩
        rw [e]
        by_cases q:i = 0
        · rw [if_pos (by simp [q])]
          exact hR1 _ _ ⟨by simp [xm,q],rfl⟩
        · rw [if_neg (by simp [q])]
          refine hR1 _ _ ⟨?_,rfl⟩
          have:xm (.int i) S.w = if (S.w:Int) < i then (S.w:Int) else i := by simp [xm,q]
          rw [this]
    rintro _ _ ⟨rfl,rfl⟩
    walk_at "wd"
    simp [hd,ha,and_assoc,zp,yj,ze,zt,zO,zP,yk,zu,zQ,yl,zR,zv,zS,ym,zw,zT,zE,zF,zU,yn,zx,zV,yo,zW,zy,zX,yp,zz,zY,zG,zH,zZ]
    have hto := jw ha
    split
    · rename_i q
      have e:u5 77 a b S = plS .none .none { S with left := xO a - 1,right := xm b S.w - 1 } := by
        unfold u5 ve
        first | rw [if_pos rfl] | rw [if_neg (by decide)]
        rw [if_neg (by omega),hto]
      rw [e] at h
      have m1 := hm.fld (S' := { S with left := xO a - 1,right := xm b S.w - 1 })
      refine ⟨_,rfl,_,rfl,_,hd,by show 15 < 1000; decide,_,rfl,_,rfl,_,ze,by show 15 < 1000; decide,.none,.none,trivial,trivial,d,A,{ S with left := xO a - 1,right := xm b S.w - 1 },rfl,?_,trivial,fun O' g1 g2 => .inl (h _ g1 (ButO.trans (ButO.trans (ButO.upd (by simp)) (ButO.upd (by simp))) g2))⟩
      rw [zt]
      exact m1
    · rename_i q
      have e:u5 77 a b S = S := by
        unfold u5 ve
        first | rw [if_pos rfl] | rw [if_neg (by decide)]
        rw [if_pos (by omega)]
      rw [e] at h
      exact .inl (h _ hm ButO.refl)
theorem VN (F:Fun K "_law_moded" "_law_moded" qg f fd) (T:Txt P w K mg C bw) (zhp:Cal P w K mg base 2 "_law_placed" [] (zb K u4)):FnOk P w K mg base CX0 3 f fd ["_law_m","_law_numbers","_law_on"] (zb K kY) := by
  have nd := jS.nd
  apply F.okV jS (by rintro _ _ _ ⟨k,on,_,d,A,S,rfl,_⟩; rfl) (fun cdv A outer sh H E hr => (zd (vZ PassesOwn.never rfl (ui (K := K) rfl (pv 1)) (zM (i := 3) nd rfl (Or.inl rfl))
      (zc (zB (zl (qq (K := K) rfl) (pv 3) (yq (qc za (qc za (qc za qn)))) (by with_unfolding_all rfl)) (zd (xy (zq hr) (pv 0) (yN (vH (K := K) rfl) (xx (qc zg (qc zg (qc zg qn)))) (zh yc (pv 3) za) (fun _ _ => rfl)) (pv 2) rfl)) zL)
      (zd (zB (zl yM (pv 3) za (zo _)) (zd (zr (zk zhp (hr.mono (by decide)) rfl (QA.pa (qc (pv 0) (qc yJ (qc yJ qn))))))) zL))))))
  · walk_at "ref"
  rintro _ O R ⟨k,on,hk,d,A,S,rfl,hm,_,h⟩
  walk_at "wd"
  refine xV.by (fun i ρ O' => ∃ v,ρ = [some (.own d),some (.d (.tuple [.int k])),some (.d (.bool on)),v] ∧ MAt O' d A (if i = 0 then S else xW k on S) ∧ ButO O O' [d]) ⟨_,rfl,hm,ButO.refl⟩ (fun _ _ _ _ => trivial) ?_ ?_
  · rintro i wv _ O1 hw ⟨v,rfl,hm1,hb1⟩ R2 hR2
    cases i with
    | succ i => simp at hw
    | zero =>
      cases hw
      rw [if_pos rfl] at hm1
      have hd1 := hm1.d
      rcases hk with rfl | rfl | rfl
      · walk_at "wd"
        refine ⟨_,rfl,by simp,?_⟩
        rw [if_pos (by rfl)]
        exact ⟨_,rfl,_,rfl,_,hd1,by show 15 < 1000; decide,hR2 _ _ ⟨_,rfl,hm1.fld (S' := { S with wrap := on }),hb1.trans (ButO.upd (by simp))⟩⟩
      · walk_at "wd"
        refine ⟨_,rfl,by simp,?_⟩
        rw [if_pos (by rfl)]
        exact ⟨_,rfl,_,rfl,_,hd1,by show 15 < 1000; decide,hR2 _ _ ⟨_,rfl,hm1.fld (S' := { S with putting := on }),hb1.trans (ButO.upd (by simp))⟩⟩
      · walk_at "wd"
        refine ⟨_,rfl,by simp,?_⟩
        rw [if_pos (by rfl)]
        exact ⟨_,rfl,_,rfl,_,hd1,by show 15 < 1000; decide,.none,.none,trivial,trivial,d,A,{ S with home := on },rfl,hm1.fld (S' := { S with home := on }),trivial,fun O' g1 g2 => hR2 _ _ ⟨_,rfl,g1,(hb1.trans (ButO.upd (by simp))).trans g2⟩⟩
  · rintro ρ O1 ⟨v,rfl,hm1,hb1⟩
    exact .inl (h _ hm1 hb1)
end
section
variable {P:Program} {w:World} {K:PySem.W.Frag} {mg:Str → Option Value} {base:Heap} {f C bw:Addr} {fd:FuncData}
theorem Ul (F:Fun K "_law_told" "_law_told" qO f fd) (T:Txt P w K mg C bw):FnOk P w K mg base CX0 1 f fd ["_law_state"] (zb K (QN C)) := by
  have nd := kH.nd
  apply F.okV kH (by rintro _ _ _ ⟨x,dx,p,st,kp,S,rfl,_⟩; rfl) (fun cdv A outer sh H E hr => (zc (zD (i := 1) nd rfl (Or.inl rfl) (xx (qc (zm (K := K) rfl (pv 0) rfl) (qc (zm (K := K) rfl (pv 0) rfl) (qc (zm (K := K) rfl (pv 0) rfl) (qc (zm (K := K) rfl (pv 0) rfl) (qc (zm (K := K) rfl (pv 0) rfl) (qc (zm (K := K) rfl (pv 0) rfl) (qc (zm (K := K) rfl (pv 0) rfl) (qc (zm (K := K) rfl (pv 0) rfl) qn))))))))))
      (zd (zC (zh (Jx (K := K) rfl) (pv 1) (xx (qc (zm (K := K) rfl (pv 0) rfl) (qc (zm (K := K) rfl (pv 0) rfl) (qc (zm (K := K) rfl (pv 0) rfl) (qc (zm (K := K) rfl (pv 0) rfl) (qc (zm (K := K) rfl (pv 0) rfl) (qc (yI (zcU rfl) (by rfl) T.n_sorted (by rfl) (QA.pa (qc (zm (K := K) rfl (pv 0) rfl) qn))) qn))))))))))))
  · walk_at "ref"
  rintro _ O R ⟨x,dx,p,st,kp,S,rfl,hs,hl,h⟩
  have hx := hs.x
  walk_at "wd"
  simp [hx,yV,and_assoc,zp,T.st.cl,T.st.n_picture,T.st.n_wide,T.st.n_high,T.st.n_row,T.st.n_column,T.st.n_late,T.st.n_ink,T.st.n_wrap,T.st.n_putting,T.st.n_home,T.st.n_top,T.st.n_bottom,T.st.n_left,T.st.n_right,T.st.n_stops,T.st.n_kept,T.st.n_last,zI,yu,yv,yQ,z7,yw,yO,yx,zJ,yy,yR,z9,yz,yf,yg,yr,yA,yS,ya,yB,yT,yC,zK,yD,yU,yb,yE,yh,yF]
  exact ⟨_,rfl,by show 8 ≤ 1000; omega,_,hs.st,S.stops,by unfold stK; rw [List.map_map]; rfl,hl,_,rfl,by show 6 ≤ 1000; omega,_,rfl,_,rfl,_,rfl,_,rfl,by show 8 + 6 ≤ 1000; omega,.inl h⟩
theorem Q5 (F:Fun K "_law_due" "_law_due" jI f fd) (T:Txt P w K mg C bw):FnOk P w K mg base CX0 1 f fd ["_law_m"] (zb K zaG) := by
  have nd := Zh.nd
  apply F.okV Zh (by rintro _ _ _ ⟨d,A,S,rfl,_⟩; rfl) (fun cdv A outer sh H E hr => (zc (zD (i := 1) nd rfl (Or.inl rfl) (xx (qc (zj (zq hr) (pv 0) zg (fun _ _ => rfl)) (qc (zj (zq hr) (pv 0) zg (fun _ _ => rfl)) (qc (zj (zq hr) (pv 0) zg (fun _ _ => rfl)) (qc (zj (zq hr) (pv 0) zg (fun _ _ => rfl)) (qc (zj (zq hr) (pv 0) zg (fun _ _ => rfl)) (qc (zj (zq hr) (pv 0) zg (fun _ _ => rfl)) (qc (zj (zq hr) (pv 0) zg (fun _ _ => rfl)) (qc (zj (zq hr) (pv 0) zg (fun _ _ => rfl)) qn))))))))))
      (zd (zC (zh (Jx (K := K) rfl) (pv 1) (xx (qc (zj (zq hr) (pv 0) zg (fun _ _ => rfl)) (qc (zj (zq hr) (pv 0) zg (fun _ _ => rfl)) (qc (zj (zq hr) (pv 0) zg (fun _ _ => rfl)) (qc (zj (zq hr) (pv 0) zg (fun _ _ => rfl)) (qc (zj (zq hr) (pv 0) zg (fun _ _ => rfl)) (qc (yI (zcE (K := K) rfl) (by rfl) T.n_sorted (by rfl) (QA.pa (qc (zj (zq hr) (pv 0) zg (fun _ _ => rfl)) qn))) qn))))))))))))
  · walk_at "ref"
  rintro _ O R ⟨d,A,S,rfl,hm,hl,h⟩
  have hd := hm.d
  walk_at "wd"
  simp [hd,and_assoc,zp,yj,ze,zt,zO,zP,yk,zu,zQ,yl,zR,zv,zS,ym,zw,zT,zE,zF,zU,yn,zx,zV,yo,zW,zy,zX,yp,zz,zY,zG,zH,zZ]
  exact ⟨_,rfl,by show 8 ≤ 1000; omega,S.stops,by simp only [yd,hm.sp]; rw [List.map_map],hl,_,rfl,by show 6 ≤ 1000; omega,_,rfl,_,rfl,_,rfl,_,rfl,by show 8 + 6 ≤ 1000; omega,.inl h⟩
theorem Um (F:Fun K "_law_like" "_law_like" qP f fd) (T:Txt P w K mg C bw) (zht:Cal P w K mg base 1 "_law_told" [] (zb K (QN C))) (zhh:Cal P w K mg base 1 "_law_due" [] (zb K zaG)):FnOk P w K mg base CX0 2 f fd ["_law_state","_law_m"] (zb K (Xv C)) := by
  apply F.okV VC (by rintro _ _ _ ⟨x,dx,p,st,kp,d,A,S,rfl,_⟩; rfl) (fun cdv A outer sh H E hr => (zd (zC (uM yM (yI (UQ (K := K) rfl hr.gd hr.units) (by rfl) T.n_repr (by rfl) (QA.pa (qc (zk zht (hr.mono (by decide)) rfl (QA.pa (qc (pv 0) qn))) qn))) (yI (UQ (K := K) rfl hr.gd hr.units) (by rfl) T.n_repr (by rfl) (QA.pa (qc (zk zhh (hr.mono (by decide)) rfl (QA.pa (qc (pv 1) qn))) qn))) (zo _)))))
  · walk_at "ref"
  rintro _ O R ⟨x,dx,p,st,kp,d,A,S,rfl,ht,hb,hl,hn,h⟩
  obtain ⟨a1,a2,a3⟩ := zcW hb hn hl
  walk_at "wd"
  have hD:PyData.hasDict (.list (qz S)) = false := by
    have e:∀ ns:List Int,PyData.hasDictAll (ns.map PyData.int) = false := fun ns => by
      induction ns with
      | nil => rfl
      | cons n ns ih => simp [PyData.hasDictAll,PyData.hasDict,ih]
    simp [qz,PyData.hasDict,PyData.hasDictAll,e]
  exact ⟨x,dx,p,st,kp,S,rfl,ht.s,hl,_,rfl,rfl,hD,a1,a2,a3,d,A,S,rfl,ht.m,hl,_,rfl,rfl,hD,a1,a2,a3,.inl (by rw [decide_eq_true rfl]; exact h)⟩
end
theorem vW {i:Int} (hi:Ink i):∃ n:_root_.Fin 512,i = ((n.val:Nat):Int) := ⟨⟨i.toNat,by have := hi.1; have := hi.2; omega⟩,by have := hi.1; simp only; omega⟩
theorem zfw {i:Int} (hi:Ink i):xz i (.int 1) = i % 8 + 8 * (i / 8 % 8) + 64 * 1 + 128 * (i / 128 % 2) + 256 * (i / 256) := by
  obtain ⟨n,rfl⟩ := vW hi; clear hi; revert n; decide +kernel
theorem zfx {i:Int} (hi:Ink i):xz i (.int 2) = i % 8 + 8 * (i / 8 % 8) + 64 * (i / 64 % 2) + 128 * 1 + 256 * (i / 256) := by
  obtain ⟨n,rfl⟩ := vW hi; clear hi; revert n; decide +kernel
theorem zfy {i:Int} (hi:Ink i):xz i (.int 3) = i % 8 + 8 * (i / 8 % 8) + 64 * (i / 64 % 2) + 128 * (i / 128 % 2) + 256 * 1 := by
  obtain ⟨n,rfl⟩ := vW hi; clear hi; revert n; decide +kernel
theorem zfz {i:Int} (hi:Ink i):xz i (.int 4) = i % 8 + 8 * (i / 8 % 8) + 64 * 0 + 128 * (i / 128 % 2) + 256 * (i / 256) := by
  obtain ⟨n,rfl⟩ := vW hi; clear hi; revert n; decide +kernel
theorem zfA {i:Int} (hi:Ink i):xz i (.int 5) = i % 8 + 8 * (i / 8 % 8) + 64 * (i / 64 % 2) + 128 * 0 + 256 * (i / 256) := by
  obtain ⟨n,rfl⟩ := vW hi; clear hi; revert n; decide +kernel
theorem zfB {i:Int} (hi:Ink i):xz i (.int 6) = i % 8 + 8 * (i / 8 % 8) + 64 * (i / 64 % 2) + 128 * (i / 128 % 2) + 256 * 0 := by
  obtain ⟨n,rfl⟩ := vW hi; clear hi; revert n; decide +kernel
theorem zfC {i:Int} (hi:Ink i):xz i (.int 7) = i % 8 + 8 * (i / 8 % 8) + 64 * (1 - i / 64 % 2) + 128 * (1 - i / 128 % 2) + 256 * (1 - i / 256) := by
  obtain ⟨n,rfl⟩ := vW hi; clear hi; revert n; decide +kernel
theorem Zu {i:Int} (hi:Ink i):Builtin.bitAnd i 7 = i % 8 ∧ Builtin.bitAnd (i / 8) 7 = i / 8 % 8 ∧ 64 * Builtin.bitAnd (i / 64) 7 = 64 * (i / 64 % 2) + 128 * (i / 128 % 2) + 256 * (i / 256) ∧ i = i % 8 + 8 * (i / 8 % 8) + 64 * (i / 64 % 2) + 128 * (i / 128 % 2) + 256 * (i / 256) := by
  obtain ⟨n,rfl⟩ := vW hi; clear hi; revert n; decide +kernel
theorem zfD {i k:Int} (hi:Ink i) (h1:10 ≤ k) (h2:k ≤ 17):xz i (.int k) = (k - 10) + 8 * (i / 8 % 8) + 64 * (i / 64 % 2) + 128 * (i / 128 % 2) + 256 * (i / 256) := by
  obtain ⟨_,e2,e3,_⟩ := Zu hi
  simp only [xz]
  rw [if_neg (by omega),if_neg (by omega),if_neg (by omega),if_neg (by omega),if_pos ⟨h1,h2⟩,e2,e3]
  omega
theorem zfE {i k:Int} (hi:Ink i) (h1:20 ≤ k) (h2:k ≤ 27):xz i (.int k) = i % 8 + 8 * (k - 20) + 64 * (i / 64 % 2) + 128 * (i / 128 % 2) + 256 * (i / 256) := by
  obtain ⟨e1,_,e3,_⟩ := Zu hi
  simp only [xz]
  rw [if_neg (by omega),if_neg (by omega),if_neg (by omega),if_neg (by omega),if_neg (by omega),if_pos ⟨h1,h2⟩,e1,e3]
  omega
theorem zfF {i k:Int} (hi:Ink i) (h:k = 8 ∨ k = 9 ∨ k = 18 ∨ k = 19):xz i (.int k) = i % 8 + 8 * (i / 8 % 8) + 64 * (i / 64 % 2) + 128 * (i / 128 % 2) + 256 * (i / 256) := by
  obtain ⟨_,_,_,e⟩ := Zu hi
  simp only [xz]
  rw [if_neg (by omega),if_neg (by omega),if_neg (by omega),if_neg (by omega),if_neg (by omega),if_neg (by omega)]
  exact e
theorem zfG {k:Int}:inV (V.int k) (List.map vOf [.none,.int 0]) = decide (k = 0) := by
  rw [Bool.eq_iff_iff,decide_eq_true_iff]
  simp [inV,eqV,vOf]
  try omega
theorem VO {k a b c:Int}:inV (V.int k) (List.map vOf [.int a,.int b,.int c]) = decide (k = a ∨ k = b ∨ k = c) := by
  rw [Bool.eq_iff_iff,decide_eq_true_iff]
  simp [inV,eqV,vOf]
  try omega
section
variable {P:Program} {w:World} {K:PySem.W.Frag} {mg:Str → Option Value} {base:Heap} {f C bw:Addr} {fd:FuncData}
seal L2.PE L2.PS L2.PSs L2.PT L2.PA in
theorem Uo (F:Fun K "_law_dyed" "_law_dyed" qN f fd) (T:Txt P w K mg C bw):FnOk P w K mg base CX0 1 f fd ["_law_m","_law_numbers"] (zb K Vr) := by
  have nd := kG.nd
  apply F.okV kG (by rintro _ _ _ ⟨ns,_,d,A,S,rfl,_⟩; rfl) (fun cdv A outer sh H E hr => (zd (vZ PassesOwn.never rfl (ui (K := K) rfl (pv 1)) (zM (i := 2) nd rfl (Or.inl rfl))
      (zc (zD (i := 3) nd rfl (Or.inl rfl) (zj (zq hr) (pv 0) zg (fun _ _ => rfl)))
      (zc (UE (i := 4) (j := 5) (k := 6) rfl nd rfl rfl rfl rfl rfl rfl (QA.pa (qc (zh ye (pv 3) za) (qc (zh ye (zh yt (pv 3) za) za) (qc (uh (qc (zh ye (zh yt (pv 3) za) za) (qc (zh ye (zh yt (pv 3) za) za) (qc (zh yt (pv 3) za) qn)))) qn)))) rfl)
      (zc (zB (zl (qq (K := K) rfl) (pv 2) (yq (qc yJ (qc za qn))) (by with_unfolding_all rfl)) (zd (UE (i := 4) (j := 5) (k := 6) rfl nd rfl rfl rfl rfl rfl rfl (QA.pa (qc za (qc za (qc (uh (qc za (qc za (qc za qn)))) qn)))) rfl)) (zd (zB (zl (qq (K := K) rfl) (pv 2) (yq (qc za (qc za (qc za qn)))) (by with_unfolding_all rfl)) (zd (qT za (Jb (pv 6) (zh yc (pv 2) za) XJ))) (zd (zB (zl (qq (K := K) rfl) (pv 2) (yq (qc za (qc za (qc za qn)))) (by with_unfolding_all rfl)) (zd (qT za (Jb (pv 6) (zh yc (pv 2) za) XJ))) (zd (zB (zl yM (pv 2) za (zo _)) (zd (kf (i := 6) nd rfl rfl (qD (N := ["_law_mark"]) (n := 1) (js := [])) rfl (Zr (K := K) rfl (pv 6)) (fun _ _ _ _ => (zM (i := 0) (show List.Nodup (["_law_mark"]:List Str) by decide +kernel) rfl (Or.inl rfl))) (fun _ _ _ _ => uN) (fun _ _ _ _ => (zh yc za (pv 0))))) (zd (zB (ue xI xI za (pv 2) za) (zd (zD (i := 4) nd rfl (Or.inl rfl) (zh yc (pv 2) za))) (zd (zB (ue xI xI za (pv 2) za) (zd (zD (i := 5) nd rfl (Or.inl rfl) (zh yc (pv 2) za))) zL)))))))))))
      (zd (xy (zq hr) (pv 0) zg (zh yK (zh yK (zh yK (zh yK (pv 4) (zh xZ za (pv 5))) (zh xZ za (yN (vH (K := K) rfl) (pv 6) za (fun _ _ => rfl)))) (zh xZ za (yN (vH (K := K) rfl) (pv 6) za (fun _ _ => rfl)))) (zh xZ za (yN (vH (K := K) rfl) (pv 6) za (fun _ _ => rfl)))) rfl))))))))
  · walk_at "ref"
  rintro _ O R ⟨ns,hns,d,A,S,rfl,hm,hi,h⟩
  show ∃ ds,xK (W.d (.tuple ns)) = some ds ∧ xV (ds.map .d) (fun _ => True) _ _ _ _ _
  refine ⟨ns,rfl,?_⟩
  refine xV.by (fun i ρ O' => ∃ v2 v3 v4 v5 v6,ρ = [some (.own d),some (.d (.tuple ns)),v2,v3,v4,v5,v6] ∧ MAt O' d A (vN (ns.take i) S) ∧ Ink (vN (ns.take i) S).ink ∧ ButO O O' [d]) ⟨_,_,_,_,_,rfl,hm,hi,ButO.refl⟩ (fun _ _ _ _ => trivial) ?_ ?_
  · rintro i wv _ O1 hw ⟨v2,v3,v4,v5,v6,rfl,hm1,hi1,hb1⟩ R1 hR1
    rw [List.getElem?_map] at hw
    cases hni:ns[i]? with
    | none => rw [hni] at hw; cases hw
    | some n =>
      rw [hni] at hw
      cases hw
      obtain ⟨k,rfl,k0,k1⟩ := hns n (List.mem_of_getElem? hni)
      have et:ns.take (i + 1) = ns.take i ++ [.int k] := by
        rw [List.take_add_one,hni]; rfl
      have es:vN (ns.take (i + 1)) S = { vN (ns.take i) S with ink := xz (vN (ns.take i) S).ink (.int k) } := by
        unfold vN
        rw [et,List.foldl_append]
        rfl
      rw [es] at hR1
      obtain ⟨Si,eSi⟩:∃ Si,Si = vN (ns.take i) S := ⟨_,rfl⟩
      rw [← eSi] at hm1 hi1 hR1
      have hd1 := hm1.d
      obtain ⟨I,eI⟩:∃ I,I = Si.ink := ⟨_,rfl⟩
      have hI:Ink I := by rw [eI]; exact hi1
      have hI0 := hI.1
      have hI1 := hI.2
      refine qw (fun ρ' O' => ∃ r,O1 r = none ∧ ρ' = [some (.own d),some (.d (.tuple ns)),some (.d (.int k)),some (.d (.int I)),some (.d (.int (I % 8))),some (.d (.int (I / 8 % 8))),some (.own r)] ∧ O' = updO O1 r (.lst [.d (.int (I / 64 % 2)),.d (.int (I / 128 % 2)),.d (.int (I / 256))])) (fun R2 hR2 => ?_) ?_
      · walk_at "wd"
        simp [hd1,and_assoc,zp,yj,ze,zt,zO,zP,yk,zu,zQ,yl,zR,zv,zS,ym,zw,zT,zE,zF,zU,yn,zx,zV,yo,zW,zy,zX,yp,zz,zY,zG,zH,zZ]
        have i0 := hi1.1
        have i1 := hi1.2
        exact ⟨⟨by omega,by omega⟩,⟨by omega,by omega⟩,⟨by omega,by omega⟩,⟨by omega,by omega⟩,fun r hr => hR2 _ _ ⟨r,hr,by rw [eI],by rw [eI]⟩⟩
      rintro _ _ ⟨r,hr0,rfl,rfl⟩
      have hr1:updO O1 r (.lst [.d (.int (I / 64 % 2)),.d (.int (I / 128 % 2)),.d (.int (I / 256))]) r = some (.lst [.d (.int (I / 64 % 2)),.d (.int (I / 128 % 2)),.d (.int (I / 256))]) := ze
      have ho2:Old O1 (updO O1 r (.lst [.d (.int (I / 64 % 2)),.d (.int (I / 128 % 2)),.d (.int (I / 256))])) := Old.refl.upd hr0
      generalize updO O1 r (.lst [.d (.int (I / 64 % 2)),.d (.int (I / 128 % 2)),.d (.int (I / 256))]) = O2 at hr1 ho2 ⊢
      refine yG (fun ρ' O' => ∃ f b m0 m1 m2 r',ρ' = [some (.own d),some (.d (.tuple ns)),some (.d (.int k)),some (.d (.int I)),some (.d (.int f)),some (.d (.int b)),some (.own r')] ∧ O' r' = some (.lst [.d (.int m0),.d (.int m1),.d (.int m2)]) ∧ Old O1 O' ∧ xz I (.int k) = f + 8 * b + 64 * m0 + 128 * m1 + 256 * m2) (fun R2 hR2 => ?_) ?_
      · have fin:∀ f b r' m0 m1 m2 O',O' r' = some (.lst [.d (.int m0),.d (.int m1),.d (.int m2)]) → Old O1 O' → xz I (.int k) = f + 8 * b + 64 * m0 + 128 * m1 + 256 * m2 → R2 [some (.own d),some (.d (.tuple ns)),some (.d (.int k)),some (.d (.int I)),some (.d (.int f)),some (.d (.int b)),some (.own r')] O' := fun f b r' m0 m1 m2 O' e1 e2 e3 => hR2 _ _ ⟨f,b,m0,m1,m2,r',rfl,e1,e2,e3⟩
        have setr:∀ j:Nat,j < 3 → ∀ v:Int,X7 O2 (.own r) (j:Int) (.d (.int v)) = some (updO O2 r (.lst (([.d (.int (I / 64 % 2)),.d (.int (I / 128 % 2)),.d (.int (I / 256))]:List W).set j (.d (.int v))))) := by
          intro j hj v
          simp only [X7,hr1]
          rcases (by omega:j = 0 ∨ j = 1 ∨ j = 2) with rfl | rfl | rfl <;> rfl
        have old3:∀ o,Old O1 (updO O2 r o) := fun o b hb => by
          have:b ≠ r := fun e => hb (by rw [e]; exact hr0)
          rw [zf this]
          exact ho2 b hb
        refine xq (k = 0) (fun R3 hR3 => ?_) (fun hk => ?_) (fun hk => ?_)
        · walk_at "wd"
          exact ⟨_,rfl,by simp,by rw [zfG]; exact hR3⟩
        · subst hk
          walk_at "wd"
          exact fun p hp => fin _ _ _ _ _ _ _ ze (ho2.upd (ho2.new hp)) rfl
        refine xq (k = 1 ∨ k = 2 ∨ k = 3) (fun R3 hR3 => ?_) (fun hk => ?_) (fun hk2 => ?_)
        · walk_at "wd"
          exact ⟨_,rfl,by simp,by rw [VO]; exact hR3⟩
        · rcases hk with rfl | rfl | rfl
          · walk_at "wd"
            exact ⟨_,setr 0 (by omega) 1,fin _ _ _ _ _ _ _ ze (old3 _) (zfw hI)⟩
          · walk_at "wd"
            exact ⟨_,setr 1 (by omega) 1,fin _ _ _ _ _ _ _ ze (old3 _) (zfx hI)⟩
          · walk_at "wd"
            exact ⟨_,setr 2 (by omega) 1,fin _ _ _ _ _ _ _ ze (old3 _) (zfy hI)⟩
        refine xq (k = 4 ∨ k = 5 ∨ k = 6) (fun R3 hR3 => ?_) (fun hk => ?_) (fun hk3 => ?_)
        · walk_at "wd"
          exact ⟨_,rfl,by simp,by rw [VO]; exact hR3⟩
        · rcases hk with rfl | rfl | rfl
          · walk_at "wd"
            exact ⟨_,setr 0 (by omega) 0,fin _ _ _ _ _ _ _ ze (old3 _) (zfz hI)⟩
          · walk_at "wd"
            exact ⟨_,setr 1 (by omega) 0,fin _ _ _ _ _ _ _ ze (old3 _) (zfA hI)⟩
          · walk_at "wd"
            exact ⟨_,setr 2 (by omega) 0,fin _ _ _ _ _ _ _ ze (old3 _) (zfB hI)⟩
        refine xq (k = 7) (fun R3 hR3 => ?_) (fun hk => ?_) (fun hk4 => ?_)
        · walk_at "wd"
          exact hR3
        · subst hk
          walk_at "wd"
          refine ⟨[.d (.int (I / 64 % 2)),.d (.int (I / 128 % 2)),.d (.int (I / 256))],by simp only [yd,hr1],by simp,fun v => match v with | .d (.int j) => some (.int (1 - j)) | _ => none,?_,fun p hp => fin _ _ _ _ _ _ _ ze (ho2.upd (ho2.new hp)) (zfC hI)⟩
          intro w hw us hus
          match us,hus with
          | [u],_ =>
            simp only [List.mem_cons,List.not_mem_nil,or_false] at hw
            rcases hw with rfl | rfl | rfl <;> exact ⟨rfl,rfl,rfl⟩
        refine xq (10 ≤ k ∧ k ≤ 17) (fun R3 hR3 => ?_) (fun hk => ?_) (fun hk5 => ?_)
        · walk_at "wd"
          split
          · rename_i e
            rw [show decide (10 ≤ k ∧ k ≤ 17) = decide (k ≤ 17) from decide_eq_decide.2 ⟨fun z => z.2,fun z => ⟨e,z⟩⟩] at hR3
            exact hR3
          · rename_i e
            rw [show decide (10 ≤ k ∧ k ≤ 17) = false from decide_eq_false (by omega)] at hR3
            exact hR3
        · walk_at "wd"
          exact fin _ _ _ _ _ _ _ hr1 ho2 (zfD hI hk.1 hk.2)
        refine xq (20 ≤ k ∧ k ≤ 27) (fun R3 hR3 => ?_) (fun hk => ?_) (fun hk6 => ?_)
        · walk_at "wd"
          split
          · rename_i e
            rw [show decide (20 ≤ k ∧ k ≤ 27) = decide (k ≤ 27) from decide_eq_decide.2 ⟨fun z => z.2,fun z => ⟨e,z⟩⟩] at hR3
            exact hR3
          · rename_i e
            rw [show decide (20 ≤ k ∧ k ≤ 27) = false from decide_eq_false (by omega)] at hR3
            exact hR3
        · walk_at "wd"
          exact fin _ _ _ _ _ _ _ hr1 ho2 (zfE hI hk.1 hk.2)
        walk_at "wd"
        exact fin _ _ _ _ _ _ _ hr1 ho2 (zfF hI (by omega))
      rintro _ O3 ⟨f,b,m0,m1,m2,r',rfl,hr3,ho3,ed⟩
      have hm3 := hm1.butO (ho3.butO (xs := [])) (by simp) (by simp) (by simp)
      have hd3 := hm3.d
      have sq:yd O3 (.own r') = some [.d (.int m0),.d (.int m1),.d (.int m2)] := by simp only [yd,hr3]
      have ed':xz Si.ink (.int k) = f + 8 * b + 64 * m0 + 128 * m1 + 256 * m2 := by rw [← eI]; exact ed
      have ik := Zs (n := .int k) hi1
      simp only [ed'] at hR1 ik
      walk_at "wd"
      simp [hd3,and_assoc,zp,yj,ze,zt,zO,zP,yk,zu,zQ,yl,zR,zv,zS,ym,zw,zT,zE,zF,zU,yn,zx,zV,yo,zW,zy,zX,yp,zz,zY,zG,zH,zZ]
      exact ⟨mulL (by decide) (by decide),_,sq,_,rfl,mulL (by decide) (by decide),_,sq,_,rfl,mulL (by decide) (by decide),_,sq,_,rfl,mulL (by decide) (by decide),hR1 _ _ ⟨_,_,_,_,_,rfl,hm3.fld,ik,hb1.trans (ho3.butO.trans (ButO.upd (by simp)))⟩⟩
  · rintro ρ O1 ⟨v2,v3,v4,v5,v6,rfl,hm1,_,hb1⟩
    simp at hm1
    exact .inl (h _ hm1 hb1)
end
noncomputable def stF:W → Option PyData := fun v => match v with
  | .d (.int c) => if c % 4 = 0 then some (.int c) else none
  | _ => none
theorem zaL {wd:Nat} (h1:1 ≤ wd) (h2:wd ≤ 24):List.filterMap (stF ∘ fun (k:Nat) => W.d (.int (4 + (k:Int)))) (List.range ((wd:Int) - 4).toNat) = (stopsI wd).map PyData.int := by
  rcases (by omega:wd = 1 ∨ wd = 2 ∨ wd = 3 ∨ wd = 4 ∨ wd = 5 ∨ wd = 6 ∨ wd = 7 ∨ wd = 8 ∨ wd = 9 ∨ wd = 10 ∨ wd = 11 ∨ wd = 12 ∨ wd = 13 ∨ wd = 14 ∨ wd = 15 ∨ wd = 16 ∨ wd = 17 ∨ wd = 18 ∨ wd = 19 ∨ wd = 20 ∨ wd = 21 ∨ wd = 22 ∨ wd = 23 ∨ wd = 24) with rfl | rfl | rfl | rfl | rfl | rfl | rfl | rfl | rfl | rfl | rfl | rfl | rfl | rfl | rfl | rfl | rfl | rfl | rfl | rfl | rfl | rfl | rfl | rfl <;> rfl
section
variable {P:Program} {w:World} {K:PySem.W.Frag} {mg:Str → Option Value} {base:Heap} {f C bw:Addr} {fd:FuncData}
seal L2.PE L2.PS L2.PSs L2.PT L2.PA in
theorem VP (F:Fun K "_law_begun" "_law_begun" qd f fd) (T:Txt P w K mg C bw):FnOk P w K mg base CX0 1 f fd ["_law_wide","_law_high"] (zb K YA) := by
  have nd := jQ.nd
  apply F.okV jQ (by rintro _ _ _ ⟨a,b,rfl,_⟩; rfl) (fun cdv A outer sh H E hr => (zc (zD (i := 2) nd rfl (Or.inl rfl) (Yr (xv zg (pv 0) (xv zg (pv 1) (xv zg za (xv zg za (xv zg xH (xv zg za Yq)))))) rfl rfl (by decide) (by decide)))
      (zc (zr (xj (K := K) rfl PySem.F.plainAttrs_dict PySem.F.slot_dict_update PySem.F.type_dict_update qo (pv 2) (QA.pa (qc (Yr (xv zg xH (xv zg xH (xv zg xH (xv zg za (xv zg (zh yc (pv 1) za) (xv zg za Yq)))))) rfl rfl (by decide) (by decide)) qn))))
      (zc (zr (xj (K := K) rfl PySem.F.plainAttrs_dict PySem.F.slot_dict_update PySem.F.type_dict_update qo (pv 2) (QA.pa (qc (Yr (xv zg (zh yc (pv 0) za) (xv zg (JT (qD (N := ["_law_column"]) (n := 1) (js := [])) rfl (Jd rfl T.n_range (QA.pa (qc za (qc (pv 0) qn)))) (fun _ _ _ _ => (zM (i := 0) (show List.Nodup (["_law_column"]:List Str) by decide +kernel) rfl (Or.inl rfl))) (fun _ _ _ _ => (kN (zl yM (zh ye (pv 0) za) za (zo _)))) (fun _ _ _ _ => (pv 0))) Yq)) rfl rfl (by decide) (by decide)) qn))))
      (zd (zC (pv 2)))))))
  · walk_at "ref"
  rintro _ O R ⟨wd,hg,rfl,w1,w2,h1,h2,h⟩
  refine yG (fun ρ' O' => ∃ d,O d = none ∧ ρ' = [some (.d (.int wd)),some (.d (.int hg)),some (.own d)] ∧ O' d = some (.dK ((mW ⟨d,d,d⟩ (st0 wd hg fun _ _ => xB 0)).take 6)) ∧ Old O O') (fun R1 hR1 => ?_) ?_
  · walk_at "wd"
    exact fun p hp => ⟨_,rfl,by show 6 ≤ 15; omega,hR1 _ _ ⟨p,hp,rfl,ze,Old.refl.upd hp⟩⟩
  rintro _ O1 ⟨d,hd0,rfl,hd1,ho1⟩
  refine yG (fun ρ' O' => ρ' = [some (.d (.int wd)),some (.d (.int hg)),some (.own d)] ∧ O' d = some (.dK ((mW ⟨d,d,d⟩ (st0 wd hg fun _ _ => xB 0)).take 12)) ∧ Old O O') (fun R1 hR1 => ?_) ?_
  · walk_at "wd"
    have dn:∀ p,O1 p = none → d ≠ p := fun p hp e => by rw [← e,hd1] at hp; cases hp
    exact ⟨.inr (.inr ⟨rfl,d,_,rfl,hd1⟩),fun p hp => ⟨_,rfl,by show 6 ≤ 15; omega,_,(zf (dn p hp)).trans hd1,dn p hp,by show 6 + 6 ≤ 1000; omega,hR1 _ _ ⟨rfl,ze,(ho1.upd (ho1.new hp)).upd hd0⟩⟩⟩
  rintro _ O2 ⟨rfl,hd2,ho2⟩
  refine yG (fun ρ' O' => ∃ sp,O sp = none ∧ d ≠ sp ∧ ρ' = [some (.d (.int wd)),some (.d (.int hg)),some (.own d)] ∧ O' d = some (.dK ((mW ⟨sp,sp,sp⟩ (st0 wd hg fun _ _ => xB 0)).take 14)) ∧ O' sp = some (.lst (((stopsI wd).map .int).map .d)) ∧ Old O O') (fun R1 hR1 => ?_) ?_
  · walk_at "wd"
    have dn:∀ p,O2 p = none → d ≠ p := fun p hp e => by rw [← e,hd2] at hp; cases hp
    refine ⟨.inr (.inr ⟨rfl,d,_,rfl,hd2⟩),fun p hp => ⟨by omega,by omega,stF,?_,fun sp hsp => ?_⟩⟩
    · intro a ha us hus
      match us,hus with
      | [u],_ =>
        refine ⟨rfl,rfl,?_⟩
        show 0 < (4:Int) ∧ if (4 + (a:Int)) % 4 = 0 then some (W.d (.int (4 + (a:Int)))) = Option.map W.d (if (4 + (a:Int)) % 4 = 0 then some (.int (4 + (a:Int))) else none) else none = Option.map W.d (if (4 + (a:Int)) % 4 = 0 then some (.int (4 + (a:Int))) else none)
        refine ⟨by decide,?_⟩
        split
        · rfl
        · rfl
    · have psp:sp ≠ p := fun e => by rw [e,ze] at hsp; cases hsp
      have sp2:O2 sp = none := by rw [zf psp] at hsp; exact hsp
      have dp:d ≠ p := dn p hp
      have dsp:d ≠ sp := dn sp sp2
      refine ⟨by rw [zf (Ne.symm psp),ze],_,rfl,by show 2 ≤ 15; omega,_,(zf dp).trans ((zf dsp).trans ((zf dp).trans hd2)),dp,by show 12 + 2 ≤ 1000; omega,hR1 _ _ ⟨sp,ho2.new sp2,dsp,rfl,ze,?_,?_⟩⟩
      · rw [zf (Ne.symm dsp),zf psp,ze,zaL w1 w2]
      · exact (((ho2.upd (ho2.new hp)).upd (ho2.new sp2)).upd (ho2.new hp)).upd hd0
  rintro _ O3 ⟨sp,hs0,hne,rfl,hd3,hs3,ho3⟩
  walk_at "wd"
  exact .inl (h d sp O3 hd0 hs0 hne hd3 hs3 ho3)
end
noncomputable def xt (n:Nat):List Str := (if n / 64 % 2 = 1 then [qF] else []) ++ (if n / 128 % 2 = 1 then [jz] else []) ++ (if n / 256 % 2 = 1 then [jA] else [])
noncomputable def yH (n:Nat):List Str := xt n ++ (if n % 8 = 0 then [] else [jB ++ sp1 ++ fig (n % 8)]) ++ (if n / 8 % 8 = 0 then [] else [Yy ++ sp1 ++ fig (n / 8 % 8)])
theorem zc3 (w:Str):Str.join sp1 [w] = w := rfl
theorem zc4 (w v:Str):Str.join sp1 [w,v] = w ++ sp1 ++ v := rfl
theorem Yc (n:Nat):yH n = (bun n).map (Str.join sp1) := by
  unfold yH xt bun
  by_cases c1:n / 64 % 2 = 1 <;> by_cases c2:n / 128 % 2 = 1 <;> by_cases c3:n / 256 % 2 = 1 <;> by_cases c4:n % 8 = 0 <;> by_cases c5:n / 8 % 8 = 0 <;> simp [c1,c2,c3,c4,c5,zc3,zc4]
theorem jK {n:Nat} (h:n < 512):(yH n).isEmpty = decide (n = 0) := by
  rw [Yc]
  by_cases h0:n = 0
  · subst h0; rfl
  · rw [decide_eq_false h0]
    cases hb:bun n with
    | nil =>
      have := zfo h0 h
      unfold wl at this
      rw [hb] at this
      exact absurd rfl this
    | cons a l => rfl
theorem VQ {n:Nat}:jC n = if n = 0 then Str.ofString "plain" else Str.join sp1 (yH n) := by
  unfold jC
  rw [Yc]
theorem Zv:∀ n:_root_.Fin 512,(n.val &&& 64 = 0 ↔ ¬ n.val / 64 % 2 = 1) ∧ (n.val &&& 128 = 0 ↔ ¬ n.val / 128 % 2 = 1) ∧ (n.val &&& 256 = 0 ↔ ¬ n.val / 256 % 2 = 1) ∧ n.val &&& 7 = n.val % 8 ∧ (n.val / 8) &&& 7 = n.val / 8 % 8 := by decide +kernel
theorem YM:∀ k:_root_.Fin 8,Str.ofString ((k.val:Int).repr) = fig k.val := by decide +kernel
theorem Kb (a:Str):Str.empty ++ a = a := by
  apply UO
  rw [jd]
  rfl
theorem zaM (n:Nat):(yH n).length ≤ 5 ∧ ((yH n).map (fun x => x.length)).sum + (yH n).length ≤ 1048576 := by
  have pl:(yH n).length ≤ 5 := by
    unfold yH xt
    simp only [List.length_append]
    split <;> split <;> split <;> split <;> split <;> simp
  have pw:∀ q ∈ yH n,q.length ≤ 20 := by
    have w1:qF.length ≤ 20 ∧ jz.length ≤ 20 ∧ jA.length ≤ 20 ∧ jB.length ≤ 10 ∧ Yy.length ≤ 10 ∧ sp1.length ≤ 1 := by decide +kernel
    obtain ⟨w1,w2,w3,w4,w5,w6⟩ := w1
    have lf:∀ k,(fig k).length = 1 := fun k => rfl
    intro q hq
    unfold yH xt at hq
    simp only [List.mem_append] at hq
    rcases hq with (((hq | hq) | hq) | hq) | hq <;> split at hq <;> simp at hq <;> subst hq
    · exact w1
    · exact w2
    · exact w3
    · rw [strLen_append,strLen_append,lf]; omega
    · rw [strLen_append,strLen_append,lf]; omega
  have:∀ L:List Str,(∀ q ∈ L,q.length ≤ 20) → (L.map (·.length)).sum ≤ 20 * L.length := by
    intro L
    induction L with
    | nil => simp
    | cons a L ih =>
      intro hL
      have := ih fun q hq => hL q (List.mem_cons_of_mem _ hq)
      have := hL a List.mem_cons_self
      simp only [List.map_cons,List.sum_cons,List.length_cons]
      omega
  have := this _ pw
  exact ⟨pl,by omega⟩
noncomputable def Kc:SpW := fun ws O R => ∃ n:Nat,ws = [.d (.int n)] ∧ n < 512 ∧ ∀ O',Old O O' → R (.d (.str (jC n))) O'
noncomputable def k8:SpW := fun ws O R => ∃ n:Nat,ws = [.d (.int n)] ∧ n < 512 ∧ R (.d (.str (jC n))) O
section
variable {P:Program} {w:World} {K:PySem.W.Frag} {mg:Str → Option Value} {base:Heap} {f C bw:Addr} {fd:FuncData}
theorem VR (F:Fun K "ink_text" "ink_text" uL f fd) (T:Txt P w K mg C bw) (zhH:Cal P w K mg base 1 "fore_of" [] (zb K (sI1 (fun _ => True) fun i => Builtin.bitAnd i 7))) (zhx:Cal P w K mg base 1 "back_of" [] (zb K (sI1 (fun _ => True) fun i => Builtin.bitAnd (i / 8) 7))):FnOk P w K mg base CX0 2 f fd ["ink"] (zb K Kc) := by
  have nd := Zf.nd
  apply F.okV Zf (by rintro _ _ _ ⟨a,rfl,_⟩; rfl) (fun cdv A outer sh H E hr => (zc (kf (i := 1) nd rfl rfl (qD (N := ["word","bit","ink"]) (n := 2) (js := [0])) rfl (J3 (K := K) (P := P) (w := w) rfl rfl rfl (kK (v := .ref bw) (u := .ref bw) rfl T.g_BITS_BY_WORD rfl)) (fun _ _ _ _ => (uj (K := K) (n := 2) rfl rfl (yL (zM (i := 0) (show List.Nodup (["word","bit","ink"]:List Str) by decide +kernel) rfl (Or.inl rfl)) (yL (zM (i := 1) (show List.Nodup (["word","bit","ink"]:List Str) by decide +kernel) rfl (Or.inl rfl)) ud)))) (fun _ _ _ _ => (kN (qr (K := K) rfl (zh jX (pv 2) (pv 1)) (fun _ => rfl)))) (fun _ _ _ _ => (pv 0)))
      (zc (vZ PassesOwn.never rfl (ui (K := K) rfl (yq (qc (yq (qc zg (qc (zk zhH (hr.mono (by decide)) rfl (QA.pa (qc (pv 0) qn))) qn))) (qc (yq (qc zg (qc (zk zhx (hr.mono (by decide)) rfl (QA.pa (qc (pv 0) qn))) qn))) qn)))) (uj (K := K) (n := 2) rfl rfl (yL (zM (i := 2) nd rfl (Or.inl rfl)) (yL (zM (i := 3) nd rfl (Or.inl rfl)) ud)))
      (zd (zB (zl zeP (pv 3) za (zo _)) (zd (zr (xj (K := K) rfl PySem.F.plainAttrs_list PySem.F.slot_list_append PySem.F.type_list_append y6 (pv 1) (QA.pa (qc (Vn (pv 2) (pv 3) (by decide)) qn))))) zL)))
      (zd (zC (xg (qr (K := K) rfl (pv 1) (fun _ => rfl)) (xj (K := K) rfl PySem.F.plainAttrs_str PySem.F.slot_str_join PySem.F.type_str_join (UL (K := K) rfl) zg (QA.pa (qc (pv 1) qn))) zg))))))
  · walk_at "ref"
  rintro _ O R ⟨n,rfl,hn,h⟩
  obtain ⟨a1,a2,a3,_,_⟩ := Zv ⟨n,hn⟩
  have e7:Builtin.bitAnd (n:Int) 7 = ((n % 8:Nat):Int) := by
    rw [← (Zv ⟨n,hn⟩).2.2.2.1]
    exact uX n 7
  have e8:Builtin.bitAnd ((n:Int) / 8) 7 = ((n / 8 % 8:Nat):Int) := by
    rw [← (Zv ⟨n,hn⟩).2.2.2.2]
    exact uX (n / 8) 7
  refine yG (fun ρ' O' => ∃ p,ρ' = [some (.d (.int n)),some (.own p),none,none] ∧ O' p = some (.lst ((xt n).map vO)) ∧ O p = none ∧ Old O O') (fun R1 hR1 => ?_) ?_
  · walk_at "wd"
    refine ⟨bitsD,T.d_bw,by decide,fun v => match v with | .d (.tuple [.str z,.int b]) => if Builtin.bitAnd (n:Int) b = 0 then none else some (.str z) | _ => none,?_,fun p hp => ?_⟩
    · rintro _ z b hz rfl us hu
      obtain ⟨u1,u2,rfl⟩:∃ a b,us = [a,b] := by
        match us,hu with
        | [a,b],_ => exact ⟨a,b,rfl⟩
      refine ⟨_,rfl,rfl,_,_,rfl,_,_,rfl,rfl,rfl,rfl,?_⟩
      show if Builtin.bitAnd (n:Int) b = 0 then _ else _
      split
      · rename_i q
        show none = Option.map W.d (if Builtin.bitAnd (n:Int) b = 0 then none else some (.str z))
        rw [if_pos q]
        rfl
      · rename_i q
        show some (W.d (.str z)) = Option.map W.d (if Builtin.bitAnd (n:Int) b = 0 then none else some (.str z))
        rw [if_neg q]
        rfl
    · refine hR1 _ _ ⟨p,rfl,?_,hp,Old.upd Old.refl hp⟩
      rw [ze]
      have b1:(Builtin.bitAnd (n:Int) 64 = 0) = ¬ n / 64 % 2 = 1 := by
        rw [show (64:Int) = ((64:Nat):Int) from rfl,uX]
        exact propext ⟨fun z => a1.1 (by exact_mod_cast z),fun z => by exact_mod_cast a1.2 z⟩
      have b2:(Builtin.bitAnd (n:Int) 128 = 0) = ¬ n / 128 % 2 = 1 := by
        rw [show (128:Int) = ((128:Nat):Int) from rfl,uX]
        exact propext ⟨fun z => a2.1 (by exact_mod_cast z),fun z => by exact_mod_cast a2.2 z⟩
      have b3:(Builtin.bitAnd (n:Int) 256 = 0) = ¬ n / 256 % 2 = 1 := by
        rw [show (256:Int) = ((256:Nat):Int) from rfl,uX]
        exact propext ⟨fun z => a3.1 (by exact_mod_cast z),fun z => by exact_mod_cast a3.2 z⟩
      unfold bitsD xt
      by_cases c1:n / 64 % 2 = 1 <;> by_cases c2:n / 128 % 2 = 1 <;> by_cases c3:n / 256 % 2 = 1 <;> simp [b1,b2,b3,c1,c2,c3,vO,qF,jz,jA]
  rintro _ O1 ⟨p,rfl,hp,hpn,ho1⟩
  refine yG (fun ρ' O' => ∃ v1 v2,ρ' = [some (.d (.int n)),some (.own p),v1,v2] ∧ O' p = some (.lst ((yH n).map vO)) ∧ Old O O') (fun R1 hR1 => ?_) ?_
  · walk_at "wd"
    rw [e7,e8]
    have ml:(xt n).length ≤ 3 := by
      unfold xt
      simp only [List.length_append]
      split <;> split <;> split <;> simp
    have step:∀ (wd:Str) (k:Nat) (v1 v2:Option W) (O2:OM) (L:List Str) (R2:WS → OM → Prop),wd.length ≤ 10 → k < 8 → L.length ≤ 10 → O2 p = some (.lst (L.map vO)) → Old O O2 → (∀ O3 v1 v2,Old O O3 → O3 p = some (.lst ((L ++ (if k = 0 then [] else [wd ++ sp1 ++ fig k])).map vO)) → R2 [some (.d (.int n)),some (.own p),v1,v2] O3) →
        X6 (ZY (wOp vNe (ki 3) (wC (PyData.int 0)))) (Xm (wBM "list" Yu (ki 1) (Xk (zaD (ki 2) (Str.ofString " ") (ki 3)) Qp))) Xl { nx := R2,rt := Clo R,bk := R1,ct := R2 } [some (.d (.int n)),some (.own p),some (.d (.str wd)),some (.d (.int k))] O2 := by
      intro wd k v1 v2 O2 L R2 hwd hk hL hO ho2 hR2
      walk_at "wd"
      split
      · rename_i q
        refine hR2 _ _ _ ho2 ?_
        rw [if_pos q,List.append_nil]
        exact hO
      · rename_i q
        have ef := YM ⟨k,hk⟩
        simp only at ef
        rw [ef,Kb]
        refine ⟨.inl ⟨rfl,by simp [yd,hO]⟩,by omega,by omega,(by show (1:Nat) ≤ 1000; decide),updO O2 p (.lst ((L ++ [wd ++ sp1 ++ fig k]).map vO)),?_,hR2 _ _ _ (ho2.upd hpn) ?_⟩
        · simp only [ua,hO]
          rw [if_pos (by rw [List.length_map]; omega),List.map_append]
          rfl
        · rw [ze,if_neg q]
    refine xV.by (fun i ρ O' => ∃ v1 v2,ρ = [some (.d (.int n)),some (.own p),v1,v2] ∧ O' p = some (.lst ((match i with | 0 => xt n | 1 => xt n ++ (if n % 8 = 0 then [] else [jB ++ sp1 ++ fig (n % 8)]) | _ => yH n).map vO)) ∧ Old O O') ⟨_,_,rfl,hp,ho1⟩ (fun _ _ _ _ => trivial) ?_ ?_
    · rintro i x _ O2 hx ⟨v1,v2,rfl,hO,ho2⟩ R2 hR2
      match i,hx,hO,hR2 with
      | 0,hx,hO,hR2 =>
        cases hx
        refine ⟨_,rfl,rfl,_,_,rfl,_,_,rfl,rfl,?_⟩
        exact step jB (n % 8) v1 v2 O2 (xt n) R2 (by decide +kernel) (by omega) (by omega) hO ho2 fun O3 v1 v2 ho3 h3 => hR2 _ _ ⟨_,_,rfl,h3,ho3⟩
      | 1,hx,hO,hR2 =>
        cases hx
        refine ⟨_,rfl,rfl,_,_,rfl,_,_,rfl,rfl,?_⟩
        exact step Yy (n / 8 % 8) v1 v2 O2 (xt n ++ (if n % 8 = 0 then [] else [jB ++ sp1 ++ fig (n % 8)])) R2 (by decide +kernel) (by omega) (by rw [List.length_append]; split <;> simp <;> omega) hO ho2 fun O3 v1 v2 ho3 h3 => hR2 _ _ ⟨_,_,rfl,h3,ho3⟩
      | i + 2,hx,hO,hR2 => cases hx
    · rintro _ O2 ⟨v1,v2,rfl,hO,ho2⟩
      exact hR1 _ _ ⟨v1,v2,rfl,hO,ho2⟩
  rintro _ O2 ⟨v1,v2,rfl,hp2,ho2⟩
  walk_at "wd"
  simp only [hp2,List.isEmpty_map,jK hn]
  by_cases h0:n = 0
  · refine .inl ⟨by simp [h0],.inl ?_⟩
    have := h O2 ho2
    rw [VQ,if_pos h0] at this
    exact this
  · refine .inr ⟨by simp [h0],.inr (.inl ⟨rfl,_,rfl⟩),yH n,by simp only [yd,hp2],by decide +kernel,?_,.inl ?_⟩
    · have pl:(yH n).length ≤ 5 := by
        unfold yH xt
        simp only [List.length_append]
        split <;> split <;> split <;> split <;> split <;> simp
      have pw:∀ q ∈ yH n,q.length ≤ 20 := by
        have w1:qF.length ≤ 20 ∧ jz.length ≤ 20 ∧ jA.length ≤ 20 ∧ jB.length ≤ 10 ∧ Yy.length ≤ 10 ∧ sp1.length ≤ 1 := by decide +kernel
        obtain ⟨w1,w2,w3,w4,w5,w6⟩ := w1
        have lf:∀ k,(fig k).length = 1 := fun k => rfl
        intro q hq
        unfold yH xt at hq
        simp only [List.mem_append] at hq
        rcases hq with (((hq | hq) | hq) | hq) | hq <;> split at hq <;> simp at hq <;> subst hq
        · exact w1
        · exact w2
        · exact w3
        · rw [strLen_append,strLen_append,lf]; omega
        · rw [strLen_append,strLen_append,lf]; omega
      have:∀ L:List Str,(∀ q ∈ L,q.length ≤ 20) → (L.map (·.length)).sum ≤ 20 * L.length := by
        intro L
        induction L with
        | nil => simp
        | cons a L ih =>
          intro hL
          have := ih fun q hq => hL q (List.mem_cons_of_mem _ hq)
          have := hL a List.mem_cons_self
          simp only [List.map_cons,List.sum_cons,List.length_cons]
          omega
      have := this _ pw
      omega
    · have := h O2 ho2
      rw [VQ,if_neg h0] at this
      rw [UN]
      exact this
theorem Uq (F:Fun K "ink_text" "ink_text" uL f fd) (T:Txt P w K mg C bw) (zhH:Cal P w K mg base 1 "fore_of" [] (zb K (sI1 (fun _ => True) fun i => Builtin.bitAnd i 7))) (zhx:Cal P w K mg base 1 "back_of" [] (zb K (sI1 (fun _ => True) fun i => Builtin.bitAnd (i / 8) 7))):FnOk P w K mg base CX0 2 f fd ["ink"] (zb K k8) := by
  exact (VR F T zhH zhx).forget fun ws O R ⟨n,e,hn,h⟩ => ⟨n,e,hn,fun O' ho => ⟨ho,h⟩⟩
theorem Zw (F:Fun K "_law_ink_text" "_law_ink_text" vf f fd) (T:Txt P w K mg C bw):FnOk P w K mg base CX0 1 f fd ["_law_ink"] (zb K Kc) := by
  have nd := qh.nd
  apply F.okV qh (by rintro _ _ _ ⟨a,rfl,_⟩; rfl) (fun cdv A outer sh H E hr => (zc (kf (i := 1) nd rfl rfl (qD (N := ["_law_k","_law_ink"]) (n := 1) (js := [0])) rfl (uw rfl T.n_range (QA.pa (qc za qn))) (fun _ _ _ _ => (zM (i := 0) (show List.Nodup (["_law_k","_law_ink"]:List Str) by decide +kernel) rfl (Or.inl rfl))) (fun _ _ _ _ => (kN (zl yM (zh ye (zh yt (pv 1) (yN (vH (K := K) rfl) (xx (qc za (qc za (qc za qn)))) (pv 0) (fun _ _ => rfl))) za) za (zo _)))) (fun _ _ _ _ => (yN (vH (K := K) rfl) (xx (qc zg (qc zg (qc zg qn)))) (pv 0) (fun _ _ => rfl))))
      (zc (zB (zl uI (zh ye (pv 0) za) za (zo _)) (zd (zr (xj (K := K) rfl PySem.F.plainAttrs_list PySem.F.slot_list_append PySem.F.type_list_append y6 (pv 1) (QA.pa (qc (zh vG zg (xQ vT (by rfl) T.n_str rfl (QA.pa (qc (zh ye (pv 0) za) qn)))) qn))))) zL)
      (zc (zB (zl uI (zh ye (zh yt (pv 0) za) za) za (zo _)) (zd (zr (xj (K := K) rfl PySem.F.plainAttrs_list PySem.F.slot_list_append PySem.F.type_list_append y6 (pv 1) (QA.pa (qc (zh vG zg (xQ vT (by rfl) T.n_str rfl (QA.pa (qc (zh ye (zh yt (pv 0) za) za) qn)))) qn))))) zL)
      (zd (zC (zes (K := K) rfl (xj (K := K) rfl PySem.F.plainAttrs_str PySem.F.slot_str_join PySem.F.type_str_join (UL (K := K) rfl) zg (QA.pa (qc (pv 1) qn))) (Zz zg))))))))
  · walk_at "ref"
  rintro _ O R ⟨n,rfl,hn,h⟩
  refine yG (fun ρ' O' => ∃ p,ρ' = [some (.d (.int n)),some (.own p)] ∧ O' p = some (.lst ((xt n).map vO)) ∧ O p = none ∧ Old O O') (fun R1 hR1 => ?_) ?_
  · walk_at "wd"
    refine ⟨fun v => match v with | .d (.int i) => if (n:Int) / ([64,128,256].getD i.toNat 1) % 2 = 1 then some (.str ([qF,jz,jA].getD i.toNat qF)) else none | _ => none,?_,fun p hp => hR1 _ _ ⟨p,rfl,?_,hp,Old.upd Old.refl hp⟩⟩
    · intro a ha us hu
      obtain ⟨u,rfl⟩ := List.length_eq_one_iff.1 hu
      refine ⟨rfl,rfl,_,rfl,?_⟩
      have e:a = 0 ∨ a = 1 ∨ a = 2 := by omega
      rcases e with rfl | rfl | rfl
      · refine ⟨_,rfl,⟨by decide,by decide⟩,?_⟩
        show if (n:Int) / 64 % 2 = 1 then _ else _
        by_cases c:(n:Int) / 64 % 2 = 1
        · rw [if_pos c]
          exact ⟨_,rfl,_,rfl,by show _ = Option.map W.d (if (n:Int) / 64 % 2 = 1 then some (.str qF) else none); rw [if_pos c]; rfl⟩
        · rw [if_neg c]
          show none = Option.map W.d (if (n:Int) / 64 % 2 = 1 then some (.str qF) else none)
          rw [if_neg c]
          rfl
      · refine ⟨_,rfl,⟨by decide,by decide⟩,?_⟩
        show if (n:Int) / 128 % 2 = 1 then _ else _
        by_cases c:(n:Int) / 128 % 2 = 1
        · rw [if_pos c]
          exact ⟨_,rfl,_,rfl,by show _ = Option.map W.d (if (n:Int) / 128 % 2 = 1 then some (.str jz) else none); rw [if_pos c]; rfl⟩
        · rw [if_neg c]
          show none = Option.map W.d (if (n:Int) / 128 % 2 = 1 then some (.str jz) else none)
          rw [if_neg c]
          rfl
      · refine ⟨_,rfl,⟨by decide,by decide⟩,?_⟩
        show if (n:Int) / 256 % 2 = 1 then _ else _
        by_cases c:(n:Int) / 256 % 2 = 1
        · rw [if_pos c]
          exact ⟨_,rfl,_,rfl,by show _ = Option.map W.d (if (n:Int) / 256 % 2 = 1 then some (.str jA) else none); rw [if_pos c]; rfl⟩
        · rw [if_neg c]
          show none = Option.map W.d (if (n:Int) / 256 % 2 = 1 then some (.str jA) else none)
          rw [if_neg c]
          rfl
    · rw [ze]
      have r3:List.range 3 = [0,1,2] := rfl
      rw [r3]
      have i1:((n:Int) / 64 % 2 = 1) = (n / 64 % 2 = 1) := propext ⟨fun z => by omega,fun z => by omega⟩
      have i2:((n:Int) / 128 % 2 = 1) = (n / 128 % 2 = 1) := propext ⟨fun z => by omega,fun z => by omega⟩
      have i3:((n:Int) / 256 % 2 = 1) = (n / 256 % 2 = 1) := propext ⟨fun z => by omega,fun z => by omega⟩
      unfold xt
      by_cases c1:n / 64 % 2 = 1 <;> by_cases c2:n / 128 % 2 = 1 <;> by_cases c3:n / 256 % 2 = 1 <;> simp [i1,i2,i3,c1,c2,c3,vO]
  rintro _ O1 ⟨p,rfl,hp,hpn,ho1⟩
  have app1:∀ (O':OM) (L:List Str) (q:Str),O' p = some (.lst (L.map vO)) → L.length ≤ 10 → ua O' (.own p) (.d (.str q)) = some (updO O' p (.lst ((L ++ [q]).map vO))) := fun O' L q hO hL => by
    simp only [ua,hO]
    rw [if_pos (by rw [List.length_map]; omega),List.map_append]
    rfl
  have ml:(xt n).length ≤ 3 := by
    unfold xt
    simp only [List.length_append]
    split <;> split <;> split <;> simp
  have pre1:Str.ofString "fore " = jB ++ sp1 := by decide +kernel
  have pre2:Str.ofString "back " = Yy ++ sp1 := by decide +kernel
  have prl:(Str.ofString "fore ").length ≤ 10 ∧ (Str.ofString "back ").length ≤ 10 := by decide +kernel
  refine yG (fun ρ' O' => ρ' = [some (.d (.int n)),some (.own p)] ∧ Old O O' ∧ O' p = some (.lst ((xt n ++ (if n % 8 = 0 then [] else [jB ++ sp1 ++ fig (n % 8)])).map vO))) (fun R1 hR1 => ?_) ?_
  · walk_at "wd"
    have ec:(n:Int) % 8 = ((n % 8:Nat):Int) := by omega
    have ef := YM ⟨n % 8,by omega⟩
    simp only at ef
    rw [ec,ef]
    split
    · rename_i q
      have hq:¬ n % 8 = 0 := by omega
      refine ⟨.inl ⟨rfl,by simp [yd,hp]⟩,by omega,by omega,by have := prl.1; rw [sizeLine_eq]; show _ + 1 ≤ _; omega,_,app1 O1 _ _ hp (by omega),hR1 _ _ ⟨rfl,ho1.upd hpn,?_⟩⟩
      rw [ze,if_neg hq,pre1]
    · rename_i q
      refine hR1 _ _ ⟨rfl,ho1,?_⟩
      rw [if_pos (by omega),List.append_nil]
      exact hp
  rintro _ O2 ⟨rfl,ho2,hp2⟩
  refine yG (fun ρ' O' => ρ' = [some (.d (.int n)),some (.own p)] ∧ Old O O' ∧ O' p = some (.lst ((yH n).map vO))) (fun R1 hR1 => ?_) ?_
  · walk_at "wd"
    have ec:(n:Int) / 8 % 8 = ((n / 8 % 8:Nat):Int) := by omega
    have ef := YM ⟨n / 8 % 8,by omega⟩
    simp only at ef
    rw [ec,ef]
    refine ⟨⟨by decide,by decide⟩,?_⟩
    split
    · rename_i q
      have hq:¬ n / 8 % 8 = 0 := by omega
      refine ⟨.inl ⟨rfl,by simp [yd,hp2]⟩,⟨by decide,by decide⟩,by omega,by omega,by have := prl.2; rw [sizeLine_eq]; show _ + 1 ≤ _; omega,_,app1 O2 _ _ hp2 (by rw [List.length_append]; split <;> simp <;> omega),hR1 _ _ ⟨rfl,ho2.upd hpn,?_⟩⟩
      rw [ze,pre2]
      unfold yH
      rw [if_neg hq]
    · rename_i q
      refine hR1 _ _ ⟨rfl,ho2,?_⟩
      unfold yH
      rw [if_pos (show n / 8 % 8 = 0 by omega),List.append_nil]
      exact hp2
  rintro _ O3 ⟨rfl,ho3,hp3⟩
  walk_at "wd"
  have sl:yd O3 (.own p) = some ((yH n).map vO) := by simp only [yd,hp3]
  have hl := h O3 ho3
  rw [VQ] at hl
  have jo:∀ L,Txt.join (Str.ofString " ") L = Str.join sp1 L := fun L => UN _ _
  have b2 := (zaM n).2
  refine ⟨.inr (.inl ⟨rfl,_,rfl⟩),yH n,sl,by decide +kernel,b2,?_,?_⟩
  · rw [jo]
    by_cases hp:yH n = []
    · rw [hp,sizeLine_eq]
      decide +kernel
    · have := Y0 hp
      rw [sizeLine_eq]
      omega
  · rw [jo]
    by_cases h0:n = 0
    · have pn:yH n = [] := by
        have := jK hn
        rw [decide_eq_true h0] at this
        exact List.isEmpty_iff.1 this
      rw [if_pos h0] at hl
      rw [pn,if_pos (by decide +kernel)]
      exact .inl hl
    · have pn:yH n ≠ [] := fun e => by
        have := jK hn
        rw [decide_eq_false h0,e] at this
        cases this
      have pl1:∀ q ∈ yH n,1 ≤ q.length := by
        have w1:1 ≤ qF.length ∧ 1 ≤ jz.length ∧ 1 ≤ jA.length := by decide +kernel
        obtain ⟨w1,w2,w3⟩ := w1
        have lf:∀ k,(fig k).length = 1 := fun k => rfl
        intro q hq
        unfold yH xt at hq
        simp only [List.mem_append] at hq
        rcases hq with (((hq | hq) | hq) | hq) | hq <;> split at hq <;> simp at hq <;> subst hq
        · exact w1
        · exact w2
        · exact w3
        · rw [strLen_append,strLen_append,lf]; omega
        · rw [strLen_append,strLen_append,lf]; omega
      have jl := Y0 pn
      rw [if_neg h0] at hl
      rw [if_neg ?_]
      · exact .inl hl
      · intro z
        cases hpp:yH n with
        | nil => exact pn hpp
        | cons a l =>
          have := pl1 a (by rw [hpp]; exact List.mem_cons_self)
          rw [hpp] at jl z
          simp only [List.map_cons,List.sum_cons,List.length_cons] at jl
          omega
theorem Yd (F:Fun K "_law_ink_text" "_law_ink_text" vf f fd) (T:Txt P w K mg C bw):FnOk P w K mg base CX0 1 f fd ["_law_ink"] (zb K k8) := by
  exact (Zw F T).forget fun ws O R ⟨n,e,hn,h⟩ => ⟨n,e,hn,fun O' ho => ⟨ho,h⟩⟩
end
theorem uP {i:Int} (h0:-32 ≤ i) (h1:i < 32):PyData.strOk (qG i) = true := by
  have key:∀ k:_root_.Fin 64,PyData.strOk (qG ((k.val:Int) - 32)) = true := by decide +kernel
  have q := key ⟨(i + 32).toNat,by omega⟩
  have e:(((i + 32).toNat:Nat):Int) - 32 = i := by omega
  rw [← e]
  exact q
theorem vX {a b:Str} (ha:PyData.strOk a = true) (hb:PyData.strOk b = true):PyData.strOk (a ++ b) = true := by
  unfold PyData.strOk at ha hb ⊢
  rw [← Array.all_toList] at ha hb ⊢
  rw [jd,List.all_append,ha,hb]
  rfl
theorem USa0:∀ k:_root_.Fin 64,PyData.strOk (jC (0+k.val))=true:=by decide +kernel
theorem USa1:∀ k:_root_.Fin 64,PyData.strOk (jC (64+k.val))=true:=by decide +kernel
theorem USa2:∀ k:_root_.Fin 64,PyData.strOk (jC (128+k.val))=true:=by decide +kernel
theorem USa3:∀ k:_root_.Fin 64,PyData.strOk (jC (192+k.val))=true:=by decide +kernel
theorem USa4:∀ k:_root_.Fin 64,PyData.strOk (jC (256+k.val))=true:=by decide +kernel
theorem USa5:∀ k:_root_.Fin 64,PyData.strOk (jC (320+k.val))=true:=by decide +kernel
theorem USa6:∀ k:_root_.Fin 64,PyData.strOk (jC (384+k.val))=true:=by decide +kernel
theorem USa7:∀ k:_root_.Fin 64,PyData.strOk (jC (448+k.val))=true:=by decide +kernel
theorem US {n:Nat} (h:n < 512):PyData.strOk (jC n)=true:=by
  have e:n=64*(n/64)+n%64:=by omega
  have hk:n%64 < 64:=by omega
  rcases (by omega:n/64=0∨n/64=1∨n/64=2∨n/64=3∨n/64=4∨n/64=5∨n/64=6∨n/64=7) with q | q | q | q | q | q | q | q <;> rw [e,q]
  · exact USa0 ⟨n%64,hk⟩
  · exact USa1 ⟨n%64,hk⟩
  · exact USa2 ⟨n%64,hk⟩
  · exact USa3 ⟨n%64,hk⟩
  · exact USa4 ⟨n%64,hk⟩
  · exact USa5 ⟨n%64,hk⟩
  · exact USa6 ⟨n%64,hk⟩
  · exact USa7 ⟨n%64,hk⟩
theorem Kd {S:ST} (hb:Bds S):PyData.strOk (plT S) = true := by
  have b1 := hb.r0; have b2 := hb.r1; have b3 := hb.c0; have b4 := hb.c1; have b5 := hb.t0; have b6 := hb.tb; have b7 := hb.b1; have b8 := hb.l0; have b9 := hb.lr; have b10 := hb.rr; have b11 := hb.w2; have b12 := hb.h2
  have s0:PyData.strOk (Str.ofString ";") = true := by decide +kernel
  unfold plT
  split
  · exact vX (vX (uP (by omega) (by omega)) s0) (uP (by omega) (by omega))
  · exact vX (vX (uP (by omega) (by omega)) s0) (uP (by omega) (by omega))
theorem zeJ {S:ST} (hb:Bds S):PyData.strOk (szT S) = true := by
  have b11 := hb.w2; have b12 := hb.h2
  have s0:PyData.strOk (Str.ofString "x") = true := by decide +kernel
  exact vX (vX (uP (by omega) (by omega)) s0) (uP (by omega) (by omega))
theorem zc5 {S:ST} (hb:Bds S) (n:PyData):∀ z ∈ vd S n,PyData.strOk z = true := by
  have i0 := hb.i0
  have i1 := hb.i1
  intro z hz
  unfold vd at hz
  split at hz
  · cases List.mem_singleton.1 hz; exact Kd hb
  · split at hz
    · cases List.mem_singleton.1 hz; exact Kd hb
    · split at hz
      · cases List.mem_singleton.1 hz; exact zeJ hb
      · split at hz
        · cases List.mem_singleton.1 hz; exact US (by omega)
        · cases hz
  · cases hz
theorem UU {S:ST} (hb:Bds S) (ns:List PyData):∀ z ∈ xA S ns,PyData.strOk z = true := by
  intro z hz
  unfold xA at hz
  obtain ⟨l,hl,hz⟩ := List.mem_flatten.1 hz
  obtain ⟨n,_,rfl⟩ := List.mem_map.1 hl
  exact zc5 hb n z hz
theorem YN {l:List Str} (h:∀ z ∈ l,PyData.strOk z = true):SeqAt.shaped (.list (l.map PyData.str)) = true ∧ PyData.eqv (.list (l.map PyData.str)) (.list (l.map PyData.str)) = true := by
  obtain ⟨a1,a2,a3⟩ := zaz (ds := l.map PyData.str) (fun d hd => by
    obtain ⟨z,hz,rfl⟩ := List.mem_map.1 hd
    exact ⟨by simp [PyData.canLay0,h z hz],by simp [PyData.depth],by simp [PyData.eqv]⟩)
  refine ⟨?_,a3⟩
  unfold SeqAt.shaped
  rw [a1,decide_eq_true (by omega)]
  rfl
section
variable {P:Program} {w:World} {K:PySem.W.Frag} {mg:Str → Option Value} {base:Heap} {f C bw:Addr} {fd:FuncData}
theorem qB {S:ST} {ns:List PyData} {i:Nat} {n:PyData} (h:ns[i]? = some n):xA S (ns.take (i + 1)) = xA S (ns.take i) ++ vd S n := by
  unfold xA
  rw [List.take_add_one,h,List.map_append,List.flatten_append]
  simp
theorem zaN {S:ST} {n:PyData}:(vd S n).length ≤ 1 := by
  unfold vd
  repeat' split
  all_goals simp
theorem jL {S:ST}:∀ ns:List PyData,(xA S ns).length ≤ ns.length
  | [] => by simp [xA]
  | n :: ns => by
    have h1 := jL (S := S) ns
    have h2 := zaN (S := S) (n := n)
    unfold xA at *
    simp only [List.map_cons,List.flatten_cons,List.length_append,List.length_cons]
    omega
theorem zaO (F:Fun K "asked" "asked" YE f fd) (T:Txt P w K mg C bw) (zhW:Cal P w K mg base 1 "told_place" [] (zb K (jf C plT))) (zhX:Cal P w K mg base 1 "told_size" [] (zb K (jf C szT))) (zhL:Cal P w K mg base 2 "ink_text" [] (zb K k8)):FnOk P w K mg base CX0 3 f fd ["state","numbers"] (zb K (Z5 C)) := by
  have nd := Vz.nd
  apply F.okV Vz (by rintro _ _ _ ⟨x,dx,p,st,kp,S,ns,rfl,_⟩; rfl) (fun cdv A outer sh H E hr => (zc (zD (i := 2) nd rfl (Or.inl rfl) (uh qn))
      (zc (vZ PassesOwn.never rfl (ui (K := K) rfl (pv 1)) (zM (i := 3) nd rfl (Or.inl rfl))
      (zd (zB (PW.pt (jn (zl XE (pv 3) yJ (zo _)) (jn (zl yM (pv 3) za (zo _)) (jV (zl yM (pv 3) za (zo _)))))) (zd (zr (xj (K := K) rfl PySem.F.plainAttrs_list PySem.F.slot_list_append PySem.F.type_list_append y6 (pv 2) (QA.pa (qc (zk zhW (hr.mono (by decide)) rfl (QA.pa (qc (pv 0) qn))) qn))))) (zd (zB (zl yM (pv 3) za (zo _)) (zd (zr (xj (K := K) rfl PySem.F.plainAttrs_list PySem.F.slot_list_append PySem.F.type_list_append y6 (pv 2) (QA.pa (qc (zk zhX (hr.mono (by decide)) rfl (QA.pa (qc (pv 0) qn))) qn))))) (zd (zB (zl yM (pv 3) za (zo _)) (zd (zr (xj (K := K) rfl PySem.F.plainAttrs_list PySem.F.slot_list_append PySem.F.type_list_append y6 (pv 2) (QA.pa (qc (zk zhL (hr.mono (by decide)) rfl (QA.pa (qc (zm (K := K) rfl (pv 0) rfl) qn))) qn))))) zL)))))))
      (zd (zC (pv 2))))))
  · walk_at "ref"
  rintro _ O R ⟨x,dx,p,st,kp,S,ns,rfl,nl,hns,hs,hb,h⟩
  walk_at "wd"
  intro q hq
  refine xV.by (fun i ρ O' => ∃ v,ρ = [some (.own x),some (.d (.tuple ns)),some (.own q),v] ∧ O' q = some (.lst (((xA S (ns.take i)).map .str).map .d)) ∧ Old O O') ⟨_,rfl,ze,Old.refl.upd hq⟩ (fun _ _ _ _ => trivial) ?_ ?_
  · rintro i wv _ O1 hw ⟨v,rfl,hq1,ho1⟩ R1 hR1
    rw [List.getElem?_map] at hw
    cases hni:ns[i]? with
    | none => rw [hni] at hw; cases hw
    | some n =>
      rw [hni] at hw
      cases hw
      have hs1 := hs.butO (ho1.butO (xs := [])) (by simp) (by simp) (by simp) (by simp)
      have hx1 := hs1.x
      have al := jL (S := S) (ns.take i)
      have il:i < ns.length := (List.getElem?_eq_some_iff.1 hni).1
      have e2:∀ z:Str,ua O1 (.own q) (.d (.str z)) = some (updO O1 q (.lst (((xA S (ns.take i) ++ [z]).map .str).map .d))) := fun z => by
        simp only [ua,hq1]
        rw [if_pos (by simp; simp at al; omega)]
        simp
      have ty:tyW "list" O1 (.own q) := .inl ⟨rfl,by simp [yd,hq1]⟩
      have fin:∀ z:Str,vd S n = [z] → R1 [some (.own x),some (.d (.tuple ns)),some (.own q),some (.d n)] (updO O1 q (.lst (((xA S (ns.take i) ++ [z]).map .str).map .d))) := fun z ez =>
        hR1 _ _ ⟨_,rfl,by rw [ze,qB hni,ez],ho1.upd hq⟩
      have non:vd S n = [] → R1 [some (.own x),some (.d (.tuple ns)),some (.own q),some (.d n)] O1 := fun ez =>
        hR1 _ _ ⟨_,rfl,by rw [qB hni,ez,List.append_nil]; exact hq1,ho1⟩
      rcases (hns n (List.mem_of_getElem? hni)).cs with rfl | ⟨k,rfl,k0,k1⟩
      · walk_at "wd"
        exact ⟨ty,x,dx,p,st,kp,S,rfl,hs1,hb,_,e2 _,fin _ rfl⟩
      · walk_at "wd"
        have pl:k = 0 ∨ k = 1 → vd S (.int k) = [plT S] := fun z => by simp only [vd]; rw [if_pos z]
        split
        · rename_i z
          exact ⟨ty,x,dx,p,st,kp,S,rfl,hs1,hb,_,e2 _,fin _ (pl (.inl z))⟩
        · split
          · rename_i z
            exact ⟨ty,x,dx,p,st,kp,S,rfl,hs1,hb,_,e2 _,fin _ (pl (.inr z))⟩
          · rename_i z0 z1
            split
            · rename_i z
              exact ⟨ty,x,dx,p,st,kp,S,rfl,hs1,hb,_,e2 _,fin _ (by simp only [vd]; rw [if_neg (by omega),if_pos z])⟩
            · rename_i z2
              split
              · rename_i z
                have i0 := hb.i0
                have i1 := hb.i1
                exact ⟨ty,C,dx,_,hx1,T.st.cl,T.st.n_ink,_,yO,S.ink.toNat,by rw [Int.toNat_of_nonneg i0],by omega,_,e2 _,fin _ (by simp only [vd]; rw [if_neg (by omega),if_neg z2,if_pos z])⟩
              · rename_i z3
                exact non (by simp only [vd]; rw [if_neg (by omega),if_neg z2,if_neg z3])
  · rintro ρ O1 ⟨v,rfl,hq1,ho1⟩
    walk_at "wd"
    simp at hq1
    exact .inl (h q O1 hq (by simpa using hq1) ho1)
end
theorem VS {k:Int}:inV (V.int k) (List.map vOf [.none,.int 0,.int 1]) = decide (k = 0 ∨ k = 1) := by
  simp [inV,eqV,vOf]
  by_cases q:k = 0
  · subst q; rfl
  · by_cases q1:k = 1
    · subst q1; rfl
    · rw [decide_eq_false (by omega)]
      simp [q,q1,Ne.symm q,Ne.symm q1]
section
variable {P:Program} {w:World} {K:PySem.W.Frag} {mg:Str → Option Value} {base:Heap} {f C bw:Addr} {fd:FuncData}
theorem VT (F:Fun K "_law_asked" "_law_asked" qi f fd) (T:Txt P w K mg C bw) (zhk:Cal P w K mg base 1 "_law_ink_text" [] (zb K k8)):FnOk P w K mg base CX0 2 f fd ["_law_m","_law_numbers"] (zb K kX) := by
  have nd := jT.nd
  apply F.okV jT (by rintro _ _ _ ⟨d,A,S,ns,rfl,_⟩; rfl) (fun cdv A outer sh H E hr => (zc (zD (i := 2) nd rfl (Or.inl rfl) (uh qn))
      (zc (vZ PassesOwn.never rfl (ui (K := K) rfl (pv 1)) (zM (i := 3) nd rfl (Or.inl rfl))
      (zc (XB (i := 4) (j := 5) rfl nd rfl rfl (by decide) rfl rfl (QA.pa (qc (zh yK (zj (zq hr) (pv 0) zg (fun _ _ => rfl)) za) (qc (zh yK (zj (zq hr) (pv 0) zg (fun _ _ => rfl)) za) qn))) rfl)
      (zc (zB (uv (zj (zq hr) (pv 0) zg (fun _ _ => rfl))) (zd (XB (i := 4) (j := 5) rfl nd rfl rfl (by decide) rfl rfl (QA.pa (qc (zh yc (pv 4) (zj (zq hr) (pv 0) zg (fun _ _ => rfl))) (qc (zh yc (pv 5) (zj (zq hr) (pv 0) zg (fun _ _ => rfl))) qn))) rfl)) zL)
      (zc (zB (zl (qq (K := K) rfl) (pv 3) (yq (qc yJ (qc za (qc za qn)))) (by with_unfolding_all rfl)) (zd (zr (xj (K := K) rfl PySem.F.plainAttrs_list PySem.F.slot_list_append PySem.F.type_list_append y6 (pv 2) (QA.pa (qc (zh vG (zh vG (xQ vT (by rfl) T.n_str rfl (QA.pa (qc (pv 4) qn))) zg) (xQ vT (by rfl) T.n_str rfl (QA.pa (qc (pv 5) qn)))) qn))))) zL)
      (zc (zB (zl yM (pv 3) za (zo _)) (zd (zr (xj (K := K) rfl PySem.F.plainAttrs_list PySem.F.slot_list_append PySem.F.type_list_append y6 (pv 2) (QA.pa (qc (zh vG (zh vG (xQ vT (by rfl) T.n_str rfl (QA.pa (qc (zj (zq hr) (pv 0) zg (fun _ _ => rfl)) qn))) zg) (xQ vT (by rfl) T.n_str rfl (QA.pa (qc (zj (zq hr) (pv 0) zg (fun _ _ => rfl)) qn)))) qn))))) zL)
      (zd (zB (zl yM (pv 3) za (zo _)) (zd (zr (xj (K := K) rfl PySem.F.plainAttrs_list PySem.F.slot_list_append PySem.F.type_list_append y6 (pv 2) (QA.pa (qc (zk zhk (hr.mono (by decide)) rfl (QA.pa (qc (zj (zq hr) (pv 0) zg (fun _ _ => rfl)) qn))) qn))))) zL)))))))
      (zd (zC (pv 2))))))
  · walk_at "ref"
  rintro _ O R ⟨d,A,S,ns,rfl,nl,hns,hm,hb,h⟩
  walk_at "wd"
  intro q hq
  refine xV.by (fun i ρ O' => ∃ v v4 v5,ρ = [some (.own d),some (.d (.tuple ns)),some (.own q),v,v4,v5] ∧ O' q = some (.lst (((xA S (ns.take i)).map .str).map .d)) ∧ Old O O') ⟨_,_,_,rfl,ze,Old.refl.upd hq⟩ (fun _ _ _ _ => trivial) ?_ ?_
  · rintro i wv _ O1 hw ⟨v,v4,v5,rfl,hq1,ho1⟩ R1 hR1
    rw [List.getElem?_map] at hw
    cases hni:ns[i]? with
    | none => rw [hni] at hw; cases hw
    | some n =>
      rw [hni] at hw
      cases hw
      have hm1 := hm.butO (ho1.butO (xs := [])) (by simp) (by simp) (by simp)
      have hd1 := hm1.d
      have al := jL (S := S) (ns.take i)
      have il:i < ns.length := (List.getElem?_eq_some_iff.1 hni).1
      have e2:∀ z:Str,ua O1 (.own q) (.d (.str z)) = some (updO O1 q (.lst (((xA S (ns.take i) ++ [z]).map .str).map .d))) := fun z => by
        simp only [ua,hq1]
        rw [if_pos (by simp; simp at al; omega)]
        simp
      have ty:tyW "list" O1 (.own q) := .inl ⟨rfl,by simp [yd,hq1]⟩
      have b1 := hb.r0; have b2 := hb.r1; have b3 := hb.c0; have b4 := hb.c1; have b5 := hb.t0; have b6 := hb.tb; have b7 := hb.b1; have b8 := hb.l0; have b9 := hb.lr; have b10 := hb.rr; have b11 := hb.w2; have b12 := hb.h2
      have i0 := hb.i0
      have i1 := hb.i1
      have ra:-30 ≤ uk S ∧ uk S ≤ 30 := by unfold uk; split <;> omega
      have ca:-30 ≤ uB S ∧ uB S ≤ 30 := by unfold uB; split <;> omega
      have fin:∀ z:Str,vd S n = [z] → R1 [some (.own d),some (.d (.tuple ns)),some (.own q),some (.d n),some (.d (.int (uk S))),some (.d (.int (uB S)))] (updO O1 q (.lst (((xA S (ns.take i) ++ [z]).map .str).map .d))) := fun z ez =>
        hR1 _ _ ⟨_,_,_,rfl,by rw [ze,qB hni,ez],ho1.upd hq⟩
      have non:vd S n = [] → R1 [some (.own d),some (.d (.tuple ns)),some (.own q),some (.d n),some (.d (.int (uk S))),some (.d (.int (uB S)))] O1 := fun ez =>
        hR1 _ _ ⟨_,_,_,rfl,by rw [qB hni,ez,List.append_nil]; exact hq1,ho1⟩
      refine qw (fun ρ' O' => ρ' = [some (.own d),some (.d (.tuple ns)),some (.own q),some (.d n),some (.d (.int (uk S))),some (.d (.int (uB S)))] ∧ O1 = O') (fun R2 hR2 => ?_) ?_
      · walk_at "wd"
        simp [hd1,and_assoc,zp,yj,ze,zt,zO,zP,yk,zu,zQ,yl,zR,zv,zS,ym,zw,zT,zE,zF,zU,yn,zx,zV,yo,zW,zy,zX,yp,zz,zY,zG,zH,zZ]
        split
        · rename_i e; exact hR2 _ _ ⟨by simp [uk,uB,e],rfl⟩
        · rename_i e; exact hR2 _ _ ⟨by simp [uk,uB,e],rfl⟩
      rintro _ _ ⟨rfl,rfl⟩
      have lr:(Str.ofString (uk S).repr).length ≤ 1000 := xT ⟨by omega,by omega⟩
      have lc:(Str.ofString (uB S).repr).length ≤ 1000 := xT ⟨by omega,by omega⟩
      have lw:(Str.ofString (S.w:Int).repr).length ≤ 1000 := xT ⟨by omega,by omega⟩
      have lh:(Str.ofString (S.h:Int).repr).length ≤ 1000 := xT ⟨by omega,by omega⟩
      have s1:(Str.ofString ";").length = 1 := by decide +kernel
      have s2:(Str.ofString "x").length = 1 := by decide +kernel
      have l1:(Str.ofString (uk S).repr).length + (Str.ofString ";").length ≤ sizeLine := by rw [sizeLine_eq,s1]; omega
      have l2:(Str.ofString (uk S).repr ++ Str.ofString ";").length + (Str.ofString (uB S).repr).length ≤ sizeLine := by rw [sizeLine_eq,strLen_append,s1]; omega
      have l3:(Str.ofString (S.w:Int).repr).length + (Str.ofString "x").length ≤ sizeLine := by rw [sizeLine_eq,s2]; omega
      have l4:(Str.ofString (S.w:Int).repr ++ Str.ofString "x").length + (Str.ofString (S.h:Int).repr).length ≤ sizeLine := by rw [sizeLine_eq,strLen_append,s2]; omega
      rcases (hns n (List.mem_of_getElem? hni)).cs with rfl | ⟨k,rfl,k0,k1⟩
      · walk_at "wd"
        refine ⟨_,rfl,by simp,?_⟩
        rw [if_pos (by rfl)]
        exact ⟨ty,by omega,by omega,l1,by omega,by omega,l2,_,e2 _,fin _ (by show [plT S] = _; rw [Vq]; rfl)⟩
      · rcases (by omega:k = 0 ∨ k = 1 ∨ k = 2 ∨ k = 3 ∨ 4 ≤ k) with rfl | rfl | rfl | rfl | k4
        · walk_at "wd"
          refine ⟨_,rfl,by simp,?_⟩
          rw [VS,if_pos (by decide)]
          exact ⟨ty,by omega,by omega,l1,by omega,by omega,l2,_,e2 _,fin _ (by show [plT S] = _; rw [Vq]; rfl)⟩
        · walk_at "wd"
          refine ⟨_,rfl,by simp,?_⟩
          rw [VS,if_pos (by decide)]
          exact ⟨ty,by omega,by omega,l1,by omega,by omega,l2,_,e2 _,fin _ (by show [plT S] = _; rw [Vq]; rfl)⟩
        · walk_at "wd"
          refine ⟨_,rfl,by simp,?_⟩
          rw [VS,if_neg (by decide)]
          simp [hd1,and_assoc,zp,yj,ze,zt,zO,zP,yk,zu,zQ,yl,zR,zv,zS,ym,zw,zT,zE,zF,zU,yn,zx,zV,yo,zW,zy,zX,yp,zz,zY,zG,zH,zZ]
          exact ⟨ty,by omega,l3,by omega,l4,_,e2 _,fin _ (by simp only [vd]; rw [if_neg (by omega),if_pos trivial]; rfl)⟩
        · walk_at "wd"
          refine ⟨_,rfl,by simp,?_⟩
          rw [VS,if_neg (by decide)]
          simp [hd1,and_assoc,zp,yj,ze,zt,zO,zP,yk,zu,zQ,yl,zR,zv,zS,ym,zw,zT,zE,zF,zU,yn,zx,zV,yo,zW,zy,zX,yp,zz,zY,zG,zH,zZ]
          exact ⟨ty,S.ink.toNat,by rw [Int.toNat_of_nonneg i0],by omega,_,e2 _,fin _ (by simp only [vd]; rw [if_neg (by omega),if_neg (by omega),if_pos trivial])⟩
        · have n2:¬ k = 2 := by omega
          have n3:¬ k = 3 := by omega
          walk_at "wd"
          refine ⟨_,rfl,by simp,?_⟩
          rw [VS,if_neg (by simp; omega),if_neg n2,if_neg n3]
          exact non (by simp only [vd]; rw [if_neg (by omega),if_neg n2,if_neg n3])
  · rintro ρ O1 ⟨v,v4,v5,rfl,hq1,ho1⟩
    walk_at "wd"
    simp at hq1
    exact .inl (h q O1 hq (by simpa using hq1) ho1)
end
section
variable {O O' O1:OM} {C x dx p st kp d q:Addr} {A:MA} {S S1:ST} {k:KP}
theorem zeK (h:ButO O O' [d,A.kq]):Far O O' x p st kp d A := h.mono (by intro b hb; simp only [List.mem_cons,List.not_mem_nil,or_false] at hb; rcases hb with rfl | rfl <;> simp)
theorem zaP (h:S.kept.length < 8):xf S = { S with kept := S.kept ++ [uZ S] } := by unfold xf; rw [if_pos h]
theorem jM (hl:S.kept[S.kept.length - 1]? = some k):yX S = { S with row := k.row,col := k.col,late := k.late,ink := k.ink,wrap := k.wrap,putting := k.putting,home := k.home,kept := S.kept.dropLast } := by unfold yX; rw [hl]
theorem UV (h:S.kept ≠ []):∃ k,S.kept[S.kept.length - 1]? = some k := by
  have:S.kept.length ≠ 0 := fun e => h (List.length_eq_zero_iff.1 e)
  exact ⟨_,List.getElem?_eq_getElem (by omega)⟩
theorem Ke (l:List KP):SeqAt.shaped (.list (l.map kpL)) = true := QG fun k _ => ⟨by simp [kpL,PyData.canLay0,PyData.canLayAll0],by simp [kpL,PyData.depth,PyData.depthAll]⟩
theorem zaQ (l:List KP):PyData.eqv (.list (l.map kpL)) (.list []) = decide (l = []) := by
  cases l <;> simp [PyData.eqv,PyData.eqvAll]
theorem VU (t:Tw O C x dx p st kp d A S1 S) (h:S.kept.length < 8):ua O (.own A.kq) (.d (kpL (uZ S))) = some (updO O A.kq (.lst (((xf S).kept.map kpL).map .d))) ∧ Tw (updO O A.kq (.lst (((xf S).kept.map kpL).map .d))) C x dx p st kp d A S1 (xf S) ∧ Far O (updO O A.kq (.lst (((xf S).kept.map kpL).map .d))) x p st kp d A := by
  have ek := zaP h
  refine ⟨?_,t.m' ⟨?_,?_,ze⟩ (ButO.upd (by simp)),zeK (ButO.upd (by simp))⟩
  · simp only [ua,t.m.kq]
    rw [if_pos (by simp; omega),ek]
    simp
  · rw [zf t.m.dk,ek]
    exact t.m.d
  · rw [zf t.ab,ek]
    exact t.m.sp
theorem VW (t:Tw O C x dx p st kp d A S1 S) (hl:S.kept[S.kept.length - 1]? = some k) {Z:List (Key × W)} (hq:updO O A.kq (.lst (((S.kept.map kpL).map W.d).dropLast)) q = none):Tw (updO (updO (updO O A.kq (.lst (((S.kept.map kpL).map W.d).dropLast))) q (.dK Z)) d (.dK (mW A (yX S)))) C x dx p st kp d A S1 (yX S) ∧ Far O (updO (updO (updO O A.kq (.lst (((S.kept.map kpL).map W.d).dropLast))) q (.dK Z)) d (.dK (mW A (yX S)))) x p st kp d A := by
  have eb := jM hl
  have q1:q ≠ A.kq := fun e => by rw [e,ze] at hq; cases hq
  rw [zf q1] at hq
  have hs := t.m.sp
  have hk := t.m.kq
  have q2:A.sp ≠ q := fun e => by rw [e,hq] at hs; cases hs
  have bo:ButO O (updO (updO (updO O A.kq (.lst (((S.kept.map kpL).map W.d).dropLast))) q (.dK Z)) d (.dK (mW A (yX S)))) [d,A.kq] :=
    ButO.trans (ButO.trans (ButO.upd (a := A.kq) (by simp)) (ButO.new (by rw [zf q1]; exact hq))) (ButO.upd (a := d) (by simp))
  refine ⟨t.m' ⟨ze,?_,?_⟩ bo,zeK bo⟩
  · rw [zf (Ne.symm t.m.ds),zf q2,zf t.ab,eb]
    exact hs
  · rw [zf (Ne.symm t.m.dk),zf (Ne.symm q1),ze,eb]
    simp [List.map_dropLast]
theorem Kf (hl:S.kept[S.kept.length - 1]? = some k):((S.kept.map kpL).map W.d)[((S.kept.map kpL).map W.d).length - 1]? = some (.d (kpL k)) := by
  simp [hl]
theorem Ye (hl:S.kept[S.kept.length - 1]? = some k):vj (mW A S) (vj [] (uA [Str.ofString "row",Str.ofString "column",Str.ofString "ink",Str.ofString "home",Str.ofString "wrap",Str.ofString "insert",Str.ofString "late"] [.d (.int k.row),.d (.int k.col),.d (.int k.ink),.d (.bool k.home),.d (.bool k.wrap),.d (.bool k.putting),.d (.bool k.late)])) = mW A (yX S) := by
  rw [jM hl]
  rfl
theorem All20.keep (a:All20 O C x dx p st kp d A S) (t:Tw O' C x dx p st kp d A (xf S) (xf S)):All20 O' C x dx p st kp d A (xf S) :=
  ⟨t,{ a.b with },a.k.keep a.b,a.s⟩
theorem All20.back (a:All20 O C x dx p st kp d A S) (hl:S.kept[S.kept.length - 1]? = some k) (t:Tw O' C x dx p st kp d A (yX S) (yX S)):All20 O' C x dx p st kp d A (yX S) := by
  obtain ⟨k1,k2⟩ := zcV a.k a.b
  refine ⟨t,k2,k1,?_⟩
  rw [jM hl]
  exact a.s
theorem VX (hl:S.kept[S.kept.length - 1]? = some k):(yX S).w = S.w ∧ (yX S).h = S.h := by
  rw [jM hl]
  exact ⟨rfl,rfl⟩
end
theorem zc6 {k:Int} (h0:0 ≤ k) (h1:k < 4):∃ c,ltr c ∧ atI (Str.ofString "udlr").cps.toList k = some c := by
  rcases (by omega:k = 0 ∨ k = 1 ∨ k = 2 ∨ k = 3) with rfl | rfl | rfl | rfl
  · exact ⟨117,.inl rfl,by first | rfl | decide +kernel⟩
  · exact ⟨100,.inr (.inl rfl),by first | rfl | decide +kernel⟩
  · exact ⟨108,.inr (.inr (.inl rfl)),by first | rfl | decide +kernel⟩
  · exact ⟨114,.inr (.inr (.inr rfl)),by first | rfl | decide +kernel⟩
section
variable {P:Program} {w:World} {K:PySem.W.Frag} {mg:Str → Option Value} {base:Heap} {f C bw:Addr} {fd:FuncData}
theorem Ur (F:Fun K "_law_deed" "_law_deed" qQ f fd) (T:Txt P w K mg C bw) (zho:Cal P w K mg base 1 "_law_number" [] (zb K QP)) (zhV:Cal P w K mg base 3 "to_place" [] (zb K (ZU C))) (zhp:Cal P w K mg base 2 "_law_placed" [] (zb K u4)) (zhI:Cal P w K mg base 2 "go" [] (zb K (zaF C))) (zhr:Cal P w K mg base 2 "_law_stepped" [] (zb K km)) (zhR:Cal P w K mg base 5 "set_rows" [] (zb K (Xr C))) (zhu:Cal P w K mg base 3 "_law_window" [] (zb K jD)) (zhQ:Cal P w K mg base 5 "set_columns" [] (zb K (Xs C))) (zhY:Cal P w K mg base 5 "turn_modes" [] (zb K (ZW C))) (zhn:Cal P w K mg base 3 "_law_moded" [] (zb K kY)) (zhD:Cal P w K mg base 4 "dye" [] (zb K (zar C))) (zhi:Cal P w K mg base 1 "_law_dyed" [] (zb K Vr)) (zhO:Cal P w K mg base 1 "keep" [] (zb K (qy C xf))) (zhT:Cal P w K mg base 1 "take_back" [] (zb K (qy C yX))):FnOk P w K mg base CX0 6 f fd ["_law_state","_law_m","_law_mixed_here"] (zb K (sDeed20 C)) := by
  have nd := kI.nd
  apply F.okV kI (by rintro _ _ _ ⟨x,dx,p,st,kp,d,A,S,n,rfl,_⟩; rfl) (fun cdv A outer sh H E hr => (zc (XB (i := 3) (j := 4) rfl nd rfl rfl (by decide) rfl rfl (QA.pa (qc (zk zho (hr.mono (by decide)) rfl (QA.pa (qc (zh yt (pv 2) za) qn))) (qc (zk zho (hr.mono (by decide)) rfl (QA.pa (qc (zh yt (pv 2) za) qn))) qn))) rfl)
      (zc (zD (i := 5) nd rfl (Or.inl rfl) (zh ye (pv 2) za))
      (zd (zB (zl jp (pv 5) za (zo _)) (zc (zr (zk zhV (hr.mono (by decide)) rfl (QA.pa (qc (pv 0) (qc (pv 3) (qc (pv 4) qn))))))
      (zd (zr (zk zhp (hr.mono (by decide)) rfl (QA.pa (qc (pv 1) (qc (pv 3) (qc (pv 4) qn)))))))) (zd (zB (zl yM (pv 5) za (zo _)) (zc (zr (zk zhI (hr.mono (by decide)) rfl (QA.pa (qc (pv 0) (qc (yN Jq zg (zh ye (zh yt (pv 2) za) za) (fun _ _ => rfl)) (qc (pv 4) qn))))))
      (zd (zr (zk zhr (hr.mono (by decide)) rfl (QA.pa (qc (pv 1) (qc (yN Jq zg (zh ye (zh yt (pv 2) za) za) (fun _ _ => rfl)) (qc (pv 4) qn)))))))) (zd (zB (zl yM (pv 5) za (zo _)) (zc (zr (zk zhR (hr.mono (by decide)) rfl (QA.pa (qc (pv 0) (qc (pv 3) (qc (pv 4) qn))))))
      (zd (zr (zk zhu (hr.mono (by decide)) rfl (QA.pa (qc (pv 1) (qc zg (qc (pv 3) (qc (pv 4) qn))))))))) (zd (zB (zl yM (pv 5) za (zo _)) (zc (zr (zk zhQ (hr.mono (by decide)) rfl (QA.pa (qc (pv 0) (qc (pv 3) (qc (pv 4) qn))))))
      (zd (zr (zk zhu (hr.mono (by decide)) rfl (QA.pa (qc (pv 1) (qc zg (qc (pv 3) (qc (pv 4) qn))))))))) (zd (zB (zl yM (pv 5) za (zo _)) (zc (zr (zk zhY (hr.mono (by decide)) rfl (QA.pa (qc (pv 0) (qc (yq (qc za qn)) (qc (uM uI (zh ye (zh yt (pv 2) za) za) za (zo _)) qn))))))
      (zd (zr (zk zhn (hr.mono (by decide)) rfl (QA.pa (qc (pv 1) (qc (yq (qc za qn)) (qc (uM uI (zh ye (zh yt (pv 2) za) za) za (zo _)) qn)))))))) (zd (zB (zl yM (pv 5) za (zo _)) (zc (zr (zk zhD (hr.mono (by decide)) rfl (QA.pa (qc (pv 0) (qc (yq (qc (zh ye (zh yt (pv 2) za) za) (qc (zh ye (zh yt (pv 2) za) za) qn))) qn)))))
      (zd (zr (zk zhi (hr.mono (by decide)) rfl (QA.pa (qc (pv 1) (qc (yq (qc (zh ye (zh yt (pv 2) za) za) (qc (zh ye (zh yt (pv 2) za) za) qn))) qn))))))) (zd (zB (PW.pt (jn (zl yM (zh ye (zh yt (pv 2) za) za) za (zo _)) (jV (zl (Va (K := K) rfl hr.units) (zj (zq hr) (pv 1) zg (fun _ _ => rfl)) (xx qn) (zo _))))) (zc (zr (zk zhO (hr.mono (by decide)) rfl (QA.pa (qc (pv 0) qn))))
      (zd (zr (xj (K := K) rfl PySem.F.plainAttrs_list PySem.F.slot_list_append PySem.F.type_list_append y6 (zj (zq hr) (pv 1) zg (fun _ _ => rfl)) (QA.pa (qc (xx (qc (zj (zq hr) (pv 1) zg (fun _ _ => rfl)) (qc (zj (zq hr) (pv 1) zg (fun _ _ => rfl)) (qc (zj (zq hr) (pv 1) zg (fun _ _ => rfl)) (qc (zj (zq hr) (pv 1) zg (fun _ _ => rfl)) (qc (zj (zq hr) (pv 1) zg (fun _ _ => rfl)) (qc (zj (zq hr) (pv 1) zg (fun _ _ => rfl)) (qc (zj (zq hr) (pv 1) zg (fun _ _ => rfl)) qn)))))))) qn)))))) (zc (zr (zk zhT (hr.mono (by decide)) rfl (QA.pa (qc (pv 0) qn))))
      (zc (zD (i := 6) nd rfl (Or.inl rfl) (kS rfl))
      (zd (zr (xj (K := K) rfl PySem.F.plainAttrs_dict PySem.F.slot_dict_update PySem.F.type_dict_update qo (pv 1) (QA.pa (qc (Z4 (K := K) rfl rfl (by rfl) T.n_dict (by rfl) T.n_zip (QA.pa (qc (pv 6) (qc (Yv (K := K) rfl PySem.F.plainAttrs_list PySem.F.slot_list_pop PySem.F.type_list_pop XO (zj (zq hr) (pv 1) zg (fun _ _ => rfl))) qn)))) qn))))))))))))))))))))))))
  · walk_at "ref"
  rintro _ O R ⟨x,dx,p,st,kp,d,A,S,n,rfl,ha,n0,hk,h⟩
  refine yG (fun ρ' O' => ∃ a b,yW a ∧ yW b ∧ ρ' = [some (.own x),some (.own d),some (.d (.int n)),some (.d a),some (.d b),none,none] ∧ O = O') (fun R1 hR1 => ?_) ?_
  · walk_at "wd"
    exact ⟨⟨by omega,by omega⟩,_,rfl,by omega,fun a ha => ⟨⟨by omega,by omega⟩,_,rfl,by omega,fun b hb => hR1 _ _ ⟨a,b,ha,hb,rfl,rfl⟩⟩⟩
  rintro _ _ ⟨a,b,hna,hnb,rfl,rfl⟩
  refine yG (fun ρ' O' => ρ' = [some (.own x),some (.own d),some (.d (.int n)),some (.d a),some (.d b),some (.d (.int (n % 8))),none] ∧ O = O') (fun R1 hR1 => ?_) ?_
  · walk_at "wd"
    exact hR1 _ _ ⟨rfl,rfl⟩
  rintro _ _ ⟨rfl,rfl⟩
  refine xq (n % 8 < 2) (fun R1 hR1 => ?_) (fun hk1 => ?_) (fun hk1 => ?_)
  · walk_at "wd"
    exact hR1
  · walk_at "wd"
    exact ⟨a,b,hna,hnb,x,dx,p,st,kp,S,rfl,ha.t.s,trivial,fun O1 g1 g2 => ⟨a,b,hna,hnb,d,A,S,rfl,(ha.t.go' g1 g2).m,trivial,fun O2 g3 g4 => .inl (h (plS a b S) O2 (ha.of ((ha.t.go' g1 g2).mm g3 g4) ha.b.pl k6) k6.1 k6.2.1 (g2.far.trans g4.farM))⟩⟩
  refine xq (n % 8 = 2) (fun R1 hR1 => ?_) (fun hk2 => ?_) (fun hk2 => ?_)
  · walk_at "wd"
    exact hR1
  · obtain ⟨c,hc,ec⟩ := zc6 (k := n / 8 % 4) (by omega) (by omega)
    walk_at "wd"
    have bo:Bds (uY (goS c (xc b) S)) := { Bds.goS (c := c) (n := xc b) (S := S) (by have := qZ (n := b); omega) ha.b with }
    have sl:(Str.ofString "udlr").length ≤ sizeLine := by rw [sizeLine_eq]; decide +kernel
    exact ⟨⟨by omega,by omega⟩,sl,c,ec,c,b,hc,hnb,x,dx,p,st,kp,S,rfl,ha.t.s,trivial,fun O1 g1 g2 => ⟨⟨by omega,by omega⟩,sl,c,ec,c,b,hc,hnb,d,A,S,rfl,(ha.t.go' g1 g2).m,ha.b,fun O2 g3 g4 => .inl (h _ O2 (ha.of ((ha.t.go' g1 g2).mm g3 g4) bo QQ) QQ.1 QQ.2.1 (g2.far.trans g4.farM))⟩⟩
  refine xq (n % 8 = 3) (fun R1 hR1 => ?_) (fun hk3 => ?_) (fun hk3 => ?_)
  · walk_at "wd"
    exact hR1
  · walk_at "wd"
    exact ⟨a,b,hna,hnb,x,dx,p,st,kp,S,rfl,ha.t.s,trivial,fun O1 g1 g2 => ⟨109,a,b,.inl rfl,hna,hnb,d,A,S,rfl,(ha.t.go' g1 g2).m,trivial,fun O2 g3 g4 => .inl (h (xJ a b S) O2 (ha.of ((ha.t.go' g1 g2).mm g3 g4) ha.b.rows vL) vL.1 vL.2.1 (g2.far.trans g4.farM))⟩⟩
  refine xq (n % 8 = 4) (fun R1 hR1 => ?_) (fun hk4 => ?_) (fun hk4 => ?_)
  · walk_at "wd"
    exact hR1
  · walk_at "wd"
    exact ⟨a,b,hna,hnb,x,dx,p,st,kp,S,rfl,ha.t.s,trivial,fun O1 g1 g2 => ⟨77,a,b,.inr rfl,hna,hnb,d,A,S,rfl,(ha.t.go' g1 g2).m,trivial,fun O2 g3 g4 => .inl (h (ve a b S) O2 (ha.of ((ha.t.go' g1 g2).mm g3 g4) ha.b.cols jg) jg.1 jg.2.1 (g2.far.trans g4.farM))⟩⟩
  refine xq (n % 8 = 5) (fun R1 hR1 => ?_) (fun hk5 => ?_) (fun hk5 => ?_)
  · walk_at "wd"
    exact hR1
  · walk_at "wd"
    exact ⟨⟨by omega,by omega⟩,3,_,x,dx,p,st,kp,S,rfl,ha.t.s,trivial,fun O1 g1 g2 => ⟨⟨by omega,by omega⟩,3,_,.inr (.inr rfl),d,A,S,rfl,(ha.t.go' g1 g2).m,trivial,fun O2 g3 g4 => .inl (h _ O2 (ha.of ((ha.t.go' g1 g2).mm g3 g4) ha.b.mode ul) ul.1 ul.2.1 (g2.far.trans g4.farM))⟩⟩
  refine xq (n % 8 = 6) (fun R1 hR1 => ?_) (fun hk6 => ?_) (fun hk6 => ?_)
  · walk_at "wd"
    exact hR1
  · walk_at "wd"
    have q1:∀ m ∈ [PyData.int (n / 8 % 28),PyData.int (n / 256 % 28)],∃ i:Int,m = .int i ∧ 0 ≤ i ∧ i ≤ 27 := fun m hm => by
      simp only [List.mem_cons,List.not_mem_nil,or_false] at hm
      rcases hm with rfl | rfl
      · exact ⟨_,rfl,by omega,by omega⟩
      · exact ⟨_,rfl,by omega,by omega⟩
    have q2:∀ m ∈ [PyData.int (n / 8 % 28),PyData.int (n / 256 % 28)],yW m := fun m hm => by
      obtain ⟨i,rfl,i0,i1⟩ := q1 m hm
      exact ⟨i0,by omega⟩
    exact ⟨⟨by omega,by omega⟩,⟨by omega,by omega⟩,_,q2,x,dx,p,st,kp,S,rfl,ha.t.s,⟨ha.b.i0,ha.b.i1⟩,fun O1 g1 g2 => ⟨⟨by omega,by omega⟩,⟨by omega,by omega⟩,_,q1,d,A,S,rfl,(ha.t.go' g1 g2).m,⟨ha.b.i0,ha.b.i1⟩,fun O2 g3 g4 => .inl (h _ O2 (ha.of ((ha.t.go' g1 g2).mm g3 g4) ha.b.dye ⟨rfl,rfl,rfl,rfl⟩) rfl rfl (g2.far.trans g4.farM))⟩⟩
  have hd := ha.t.m.d
  have hkq := ha.t.m.kq
  refine xq (n / 8 % 2 = 0 ∨ S.kept = []) (fun R1 hR1 => ?_) (fun hk7 => ?_) (fun hk7 => ?_)
  · walk_at "wd"
    simp [hd,hkq,and_assoc,zp,yj,ze,zt,zO,zP,yk,zu,zQ,yl,zR,zv,zS,ym,zw,zT,zE,zF,zU,yn,zx,zV,yo,zW,zy,zX,yp,zz,zY,zG,zH,zZ]
    refine ⟨⟨by omega,by omega⟩,?_⟩
    split
    · rename_i e
      rw [decide_eq_true (.inl e)] at hR1
      exact hR1
    · rename_i e
      refine ⟨.list (S.kept.map kpL),by simp only [ug,hkq,xL]; rfl,_,rfl,Ke _,rfl,?_⟩
      rw [zaQ]
      rw [show decide (n / 8 % 2 = 0 ∨ S.kept = []) = decide (S.kept = []) from decide_eq_decide.2 ⟨fun z => z.resolve_left e,.inr⟩] at hR1
      exact hR1
  · refine yG (fun ρ' O' => ρ' = [some (.own x),some (.own d),some (.d (.int n)),some (.d a),some (.d b),some (.d (.int (n % 8))),none] ∧ StAt O' C x dx p st kp (xf S) ∧ ButO O O' [x,kp]) (fun R1 hR1 => ?_) ?_
    · walk_at "wd"
      exact ⟨x,dx,p,st,kp,S,rfl,ha.t.s,ha.k.1,fun O' g1 g2 => hR1 _ _ ⟨rfl,g1,g2⟩⟩
    rintro _ O1 ⟨rfl,g1,g2⟩
    have t1 := ha.t.kp' g1 g2
    have hd1 := t1.m.d
    have hkq1 := t1.m.kq
    have ty:tyW "list" O1 (.own A.kq) := .inl ⟨rfl,by simp [yd,hkq1]⟩
    walk_at "wd"
    simp [hd1,and_assoc,zp,yj,ze,zt,zO,zP,yk,zu,zQ,yl,zR,zv,zS,ym,zw,zT,zE,zF,zU,yn,zx,zV,yo,zW,zy,zX,yp,zz,zY,zG,zH,zZ]
    obtain ⟨e1,t2,f2⟩ := VU t1 (hk.resolve_right (by omega))
    exact ⟨ty,_,rfl,by show 7 ≤ 1000; omega,_,e1,.inl (h (xf S) _ (All20.keep ha t2) rfl rfl (g2.farK.trans f2))⟩
  · refine qw (fun ρ' O' => ρ' = [some (.own x),some (.own d),some (.d (.int n)),some (.d a),some (.d b),some (.d (.int (n % 8))),some (.d (.list ([Str.ofString "row","column","ink","home","wrap","insert","late"].map PyData.str)))] ∧ StAt O' C x dx p st kp (yX S) ∧ ButO O O' [x,kp]) (fun R1 hR1 => ?_) ?_
    · walk_at "wd"
      exact ⟨x,dx,p,st,kp,S,rfl,ha.t.s,ha.k.1,fun O' g1 g2 => hR1 _ _ ⟨rfl,g1,g2⟩⟩
    rintro _ O1 ⟨rfl,g1,g2⟩
    have t1 := ha.t.kp' g1 g2
    have hd1 := t1.m.d
    have hkq1 := t1.m.kq
    have ty:tyW "list" O1 (.own A.kq) := .inl ⟨rfl,by simp [yd,hkq1]⟩
    walk_at "wd"
    simp [hd1,and_assoc,zp,yj,ze,zt,zO,zP,yk,zu,zQ,yl,zR,zv,zS,ym,zw,zT,zE,zF,zU,yn,zx,zV,yo,zW,zy,zX,yp,zz,zY,zG,zH,zZ]
    obtain ⟨k,hl⟩ := UV (S := S) (fun e => hk7 (.inr e))
    have key:∀ q Z Y,updO O1 A.kq (.lst (((S.kept.map kpL).map W.d).dropLast)) q = none → Y = mW A (yX S) → R (W.d .none) (updO (updO (updO O1 A.kq (.lst (((S.kept.map kpL).map W.d).dropLast))) q (.dK Z)) d (.dK Y)) := by
      rintro q Z _ hq rfl
      obtain ⟨t2,f2⟩ := VW t1 hl (Z := Z) hq
      exact h (yX S) _ (All20.back ha hl t2) (VX hl).1 (VX hl).2 (g2.farK.trans f2)
    refine ⟨.inr (.inr ⟨rfl,d,_,rfl,hd1⟩),ty,_,hkq1,_,Kf hl,[Str.ofString "row",Str.ofString "column",Str.ofString "ink",Str.ofString "home",Str.ofString "wrap",Str.ofString "insert",Str.ofString "late"],rfl,_,rfl,by show 7 ≤ 1000; omega,fun q hq => ?_⟩
    have dq:d ≠ q := fun e => by rw [← e,zf t1.m.dk,hd1] at hq; cases hq
    exact ⟨_,(zf dq).trans ((zf t1.m.dk).trans hd1),dq,by show 15 + 7 ≤ 1000; omega,.inl (key q _ _ hq (Ye hl))⟩
end
noncomputable def nmS:List Str := [Str.ofString "row",Str.ofString "column",Str.ofString "ink",Str.ofString "home",Str.ofString "wrap",Str.ofString "insert",Str.ofString "late"]
noncomputable def zgh (A:MA) (S:ST):W → Option PyData := fun v => match v with
  | .d (.str s) => match xY (mW A S) (Sum.inr s) with
    | some (.d y) => some y
    | _ => none
  | _ => none
theorem VY {S:ST} (b:Bds S) (e:S.stops = stopsI S.w):S.stops.length < 64 ∧ ∀ i ∈ S.stops,Sh i := by
  have w2 := b.w2
  rw [e]
  unfold stopsI
  refine ⟨by simp; omega,fun i hi => ?_⟩
  obtain ⟨j,hj,rfl⟩ := List.mem_map.1 hi
  have := List.mem_range.1 hj
  constructor <;> omega
section
variable {P:Program} {w:World} {K:PySem.W.Frag} {mg:Str → Option Value} {base:Heap} {f C bw:Addr} {fd:FuncData}
theorem VZ (F:Fun K "_law_above" "_law_above" qj f fd) (T:Txt P w K mg C bw) (zhR:Cal P w K mg base 5 "set_rows" [] (zb K (Xr C))) (zhY:Cal P w K mg base 5 "turn_modes" [] (zb K (ZW C))) (zhu:Cal P w K mg base 3 "_law_window" [] (zb K jD)) (zhn:Cal P w K mg base 3 "_law_moded" [] (zb K kY)) (zhO:Cal P w K mg base 1 "keep" [] (zb K (qy C xf))) (zhQ:Cal P w K mg base 5 "set_columns" [] (zb K (Xs C))) (zhT:Cal P w K mg base 1 "take_back" [] (zb K (qy C yX))) (zhv:Cal P w K mg base 3 "asked" [] (zb K (Z5 C))) (zhd:Cal P w K mg base 2 "_law_asked" [] (zb K kX)) (zhl:Cal P w K mg base 2 "_law_like" [] (zb K (Xv C))):FnOk P w K mg base CX0 6 f fd ["_law_state","_law_m"] (zb K (sAbove C)) := by
  have nd := jU.nd
  apply F.okV jU (by rintro _ _ _ ⟨x,dx,p,st,kp,d,A,S,rfl,_⟩; rfl) (fun cdv A outer sh H E hr => (zc (zD (i := 2) nd rfl (Or.inl rfl) (kS rfl))
      (zc (zr (zk zhR (hr.mono (by decide)) rfl (QA.pa (qc (pv 0) (qc yJ (qc yJ qn))))))
      (zc (zr (zk zhY (hr.mono (by decide)) rfl (QA.pa (qc (pv 0) (qc (yq (qc za qn)) (qc xH qn))))))
      (zc (zr (zk zhu (hr.mono (by decide)) rfl (QA.pa (qc (pv 1) (qc zg (qc yJ (qc yJ qn)))))))
      (zc (zr (zk zhn (hr.mono (by decide)) rfl (QA.pa (qc (pv 1) (qc (yq (qc za qn)) (qc xH qn))))))
      (zc (zr (zk zhO (hr.mono (by decide)) rfl (QA.pa (qc (pv 0) qn))))
      (zc (zr (xj (K := K) rfl PySem.F.plainAttrs_list PySem.F.slot_list_append PySem.F.type_list_append y6 (zj (zq hr) (pv 1) zg (fun _ _ => rfl)) (QA.pa (qc (kO (qD (N := ["_law_name","_law_m"]) (n := 1) (js := [1])) rfl (Zr (K := K) rfl (pv 2)) (fun _ _ _ _ => (zM (i := 0) (show List.Nodup (["_law_name","_law_m"]:List Str) by decide +kernel) rfl (Or.inl rfl))) (fun _ _ _ _ => uN) (fun _ _ _ _ => (zj (zq hr) (pv 1) (pv 0) (fun _ _ => rfl)))) qn))))
      (zc (zr (zk zhR (hr.mono (by decide)) rfl (QA.pa (qc (pv 0) (qc za (qc yJ qn))))))
      (zc (zr (zk zhu (hr.mono (by decide)) rfl (QA.pa (qc (pv 1) (qc zg (qc za (qc yJ qn)))))))
      (zc (zr (zk zhQ (hr.mono (by decide)) rfl (QA.pa (qc (pv 0) (qc za (qc yJ qn))))))
      (zc (zr (zk zhu (hr.mono (by decide)) rfl (QA.pa (qc (pv 1) (qc zg (qc za (qc yJ qn)))))))
      (zc (zr (zk zhT (hr.mono (by decide)) rfl (QA.pa (qc (pv 0) qn))))
      (zc (zr (xj (K := K) rfl PySem.F.plainAttrs_dict PySem.F.slot_dict_update PySem.F.type_dict_update qo (pv 1) (QA.pa (qc (Z4 (K := K) rfl rfl (by rfl) T.n_dict (by rfl) T.n_zip (QA.pa (qc (pv 2) (qc (Yv (K := K) rfl PySem.F.plainAttrs_list PySem.F.slot_list_pop PySem.F.type_list_pop XO (zj (zq hr) (pv 1) zg (fun _ _ => rfl))) qn)))) qn))))
      (zd (zC (ZA (uM (Va (K := K) rfl hr.units) (zk zhv (hr.mono (by decide)) rfl (QA.pa (qc (pv 0) (qc (yq (qc za (qc yJ (qc za qn)))) qn)))) (zk zhd (hr.mono (by decide)) rfl (QA.pa (qc (pv 1) (qc (yq (qc za (qc yJ (qc za qn)))) qn)))) (zo _)) (Zz (zk zhl (hr.mono (by decide)) rfl (QA.pa (qc (pv 0) (qc (pv 1) qn))))))))))))))))))))))
  · walk_at "ref"
  rintro _ O R ⟨x,dx,p,st,kp,d,A,S,rfl,ha,hk,h⟩
  have nN:yW .none := trivial
  have n3:yW (.int 3) := ⟨by decide,by decide⟩
  refine yG (fun ρ' O' => ρ' = [some (.own x),some (.own d),some (.d (.list (nmS.map .str)))] ∧ O = O') (fun R1 hR1 => ?_) ?_
  · walk_at "wd"
    exact hR1 _ _ ⟨rfl,rfl⟩
  rintro _ _ ⟨rfl,rfl⟩
  refine zfq (fun ρ' O' => ∃ S1,ρ' = [some (.own x),some (.own d),some (.d (.list (nmS.map .str)))] ∧ All20 O' C x dx p st kp d A S1 ∧ S1.kept.length < 8 ∧ Far O O' x p st kp d A) (fun R1 hR1 => ?_) ?_
  · walk_at "wd"
    have e:(xW 3 true (xJ .none .none S)).w = S.w ∧ (xW 3 true (xJ .none .none S)).h = S.h ∧ (xW 3 true (xJ .none .none S)).stops = S.stops ∧ (xW 3 true (xJ .none .none S)).kept = S.kept := ⟨ul.1.trans vL.1,ul.2.1.trans vL.2.1,ul.2.2.1.trans vL.2.2.1,ul.2.2.2.trans vL.2.2.2⟩
    exact ⟨.none,.none,nN,nN,x,dx,p,st,kp,S,rfl,ha.t.s,trivial,fun O1 g1 g2 => ⟨3,true,x,dx,p,st,kp,_,rfl,g1,trivial,fun O2 g3 g4 => ⟨109,.none,.none,.inl rfl,nN,nN,d,A,S,rfl,((ha.t.go' g1 g2).go' g3 g4).m,trivial,fun O3 g5 g6 => ⟨3,true,.inr (.inr rfl),d,A,_,rfl,g5,trivial,fun O4 g7 g8 => hR1 _ _ ⟨xW 3 true (xJ .none .none S),rfl,ha.of ((((ha.t.go' g1 g2).go' g3 g4).mm g5 g6).mm g7 g8) ha.b.rows.mode e,by rw [e.2.2.2]; exact hk,g2.far.trans (g4.far.trans (g6.farM.trans g8.farM))⟩⟩⟩⟩⟩
  rintro _ O1 ⟨S1,rfl,ha1,hk1,hf1⟩
  refine qw (fun ρ' O' => ρ' = [some (.own x),some (.own d),some (.d (.list (nmS.map .str)))] ∧ All20 O' C x dx p st kp d A (xf S1) ∧ Far O O' x p st kp d A) (fun R1 hR1 => ?_) ?_
  · refine yG (fun ρ' O' => ρ' = [some (.own x),some (.own d),some (.d (.list (nmS.map .str)))] ∧ StAt O' C x dx p st kp (xf S1) ∧ ButO O1 O' [x,kp]) (fun R2 hR2 => ?_) ?_
    · walk_at "wd"
      exact ⟨x,dx,p,st,kp,S1,rfl,ha1.t.s,ha1.k.1,fun O' g1 g2 => hR2 _ _ ⟨rfl,g1,g2⟩⟩
    rintro _ O2 ⟨rfl,g1,g2⟩
    have t1 := ha1.t.kp' g1 g2
    have hd1 := t1.m.d
    have hkq1 := t1.m.kq
    have ty:tyW "list" O2 (.own A.kq) := .inl ⟨rfl,by simp [yd,hkq1]⟩
    walk_at "wd"
    simp [hd1,and_assoc,zp,yj,ze,zt,zO,zP,yk,zu,zQ,yl,zR,zv,zS,ym,zw,zT,zE,zF,zU,yn,zx,zV,yo,zW,zy,zX,yp,zz,zY,zG,zH,zZ]
    obtain ⟨e1,t2,f2⟩ := VU t1 hk1
    refine ⟨ty,_,rfl,by show 7 ≤ 1000; omega,zgh A S1,?_,_,e1,hR1 _ _ ⟨rfl,All20.keep ha1 t2,hf1.trans (g2.farK.trans f2)⟩⟩
    intro w hw us hus
    match us,hus with
    | [u],_ =>
      simp only [nmS,List.map_cons,List.map_nil,List.mem_cons,List.not_mem_nil,or_false] at hw
      rcases hw with rfl | rfl | rfl | rfl | rfl | rfl | rfl <;> exact ⟨rfl,rfl,_,hd1,_,rfl,rfl⟩
  rintro _ O2 ⟨rfl,ha2,hf2⟩
  have kk2:(xf S1).kept ≠ [] := by unfold xf; simp
  generalize xf S1 = S2 at ha2 kk2
  refine qw (fun ρ' O' => ∃ S3,ρ' = [some (.own x),some (.own d),some (.d (.list (nmS.map .str)))] ∧ All20 O' C x dx p st kp d A S3 ∧ S3.kept ≠ [] ∧ Far O O' x p st kp d A) (fun R1 hR1 => ?_) ?_
  · walk_at "wd"
    exact ⟨.int 3,.none,n3,nN,x,dx,p,st,kp,S2,rfl,ha2.t.s,trivial,fun O' g1 g2 => ⟨109,.int 3,.none,.inl rfl,n3,nN,d,A,S2,rfl,(ha2.t.go' g1 g2).m,trivial,fun O'' g3 g4 => hR1 _ _ ⟨xJ (.int 3) .none S2,rfl,ha2.of ((ha2.t.go' g1 g2).mm g3 g4) ha2.b.rows vL,by rw [vL.2.2.2]; exact kk2,hf2.trans (g2.far.trans g4.farM)⟩⟩⟩
  rintro _ O3 ⟨S3,rfl,ha3,kk3,hf3⟩
  refine qw (fun ρ' O' => ∃ S3,ρ' = [some (.own x),some (.own d),some (.d (.list (nmS.map .str)))] ∧ All20 O' C x dx p st kp d A S3 ∧ S3.kept ≠ [] ∧ Far O O' x p st kp d A) (fun R1 hR1 => ?_) ?_
  · walk_at "wd"
    exact ⟨.int 3,.none,n3,nN,x,dx,p,st,kp,S3,rfl,ha3.t.s,trivial,fun O' g1 g2 => ⟨77,.int 3,.none,.inr rfl,n3,nN,d,A,S3,rfl,(ha3.t.go' g1 g2).m,trivial,fun O'' g3 g4 => hR1 _ _ ⟨ve (.int 3) .none S3,rfl,ha3.of ((ha3.t.go' g1 g2).mm g3 g4) ha3.b.cols jg,by rw [jg.2.2.2]; exact kk3,hf3.trans (g2.far.trans g4.farM)⟩⟩⟩
  rintro _ O4 ⟨S4,rfl,ha4,kk4,hf4⟩
  refine qw (fun ρ' O' => ∃ S5,ρ' = [some (.own x),some (.own d),some (.d (.list (nmS.map .str)))] ∧ All20 O' C x dx p st kp d A S5 ∧ Far O O' x p st kp d A) (fun R1 hR1 => ?_) ?_
  · refine yG (fun ρ' O' => ρ' = [some (.own x),some (.own d),some (.d (.list (nmS.map .str)))] ∧ StAt O' C x dx p st kp (yX S4) ∧ ButO O4 O' [x,kp]) (fun R2 hR2 => ?_) ?_
    · walk_at "wd"
      exact ⟨x,dx,p,st,kp,S4,rfl,ha4.t.s,ha4.k.1,fun O' g1 g2 => hR2 _ _ ⟨rfl,g1,g2⟩⟩
    rintro _ O5 ⟨rfl,g1,g2⟩
    have t1 := ha4.t.kp' g1 g2
    have hd1 := t1.m.d
    have hkq1 := t1.m.kq
    have ty:tyW "list" O5 (.own A.kq) := .inl ⟨rfl,by simp [yd,hkq1]⟩
    walk_at "wd"
    simp [hd1,and_assoc,zp,yj,ze,zt,zO,zP,yk,zu,zQ,yl,zR,zv,zS,ym,zw,zT,zE,zF,zU,yn,zx,zV,yo,zW,zy,zX,yp,zz,zY,zG,zH,zZ]
    obtain ⟨k,hl⟩ := UV kk4
    have key:∀ q Z Y,updO O5 A.kq (.lst (((S4.kept.map kpL).map W.d).dropLast)) q = none → Y = mW A (yX S4) → R1 [some (.own x),some (.own d),some (.d (.list (nmS.map .str)))] (updO (updO (updO O5 A.kq (.lst (((S4.kept.map kpL).map W.d).dropLast))) q (.dK Z)) d (.dK Y)) := by
      rintro q Z _ hq rfl
      obtain ⟨t2,f2⟩ := VW t1 hl (Z := Z) hq
      exact hR1 _ _ ⟨yX S4,rfl,All20.back ha4 hl t2,hf4.trans (g2.farK.trans f2)⟩
    refine ⟨.inr (.inr ⟨rfl,d,_,rfl,hd1⟩),ty,_,hkq1,_,Kf hl,nmS,rfl,_,rfl,by show 7 ≤ 1000; omega,fun q hq => ?_⟩
    have dq:d ≠ q := fun e => by rw [← e,zf t1.m.dk,hd1] at hq; cases hq
    exact ⟨_,(zf dq).trans ((zf t1.m.dk).trans hd1),dq,by show 15 + 7 ≤ 1000; omega,key q _ _ hq (Ye hl)⟩
  rintro _ O5 ⟨S5,rfl,ha5,hf5⟩
  have ns3:∀ n ∈ [PyData.int 1,.none,.int 2],yW n := fun n hn => by
    simp at hn
    rcases hn with rfl | rfl | rfl
    · exact ⟨by decide,by decide⟩
    · trivial
    · exact ⟨by decide,by decide⟩
  obtain ⟨e1,e2⟩ := YN (UU ha5.b [PyData.int 1,.none,.int 2])
  obtain ⟨l1,l2⟩ := VY ha5.b ha5.s
  walk_at "wd"
  refine ⟨x,dx,p,st,kp,S5,_,rfl,by decide,ns3,ha5.t.s,ha5.b,fun q O6 q1 q2 q3 => ⟨d,A,S5,_,rfl,by decide,ns3,(ha5.t.old q3).m,ha5.b,fun q' O7 q4 q5 q6 => ?_⟩⟩
  have hq7:O7 q = some (.lst (((xA S5 [PyData.int 1,.none,.int 2]).map .str).map .d)) := by rw [q6 q (by rw [q2]; simp)]; exact q2
  refine ⟨.list ((xA S5 [PyData.int 1,.none,.int 2]).map .str),by simp only [ug,hq7,xL]; rfl,.list ((xA S5 [PyData.int 1,.none,.int 2]).map .str),by simp only [ug,q5,xL]; rfl,e1,e1,?_⟩
  rw [if_pos e2]
  exact ⟨x,dx,p,st,kp,d,A,S5,rfl,(ha5.t.old q3).old q6,ha5.b,l1,l2,.inl (h O7 (hf5.trans (q3.far.trans q6.far)))⟩
end
noncomputable def Pr (t:PyData):Prop := ∃ l:List Str,t = .tuple [.list (l.map .str),.list (l.map .str)] ∧ ∀ z ∈ l,PyData.strOk z = true
noncomputable def Yf:List PyData := [.none,.int 0,.int 1,.int 2,.int 3,.int 1,.int 4,.int 5,.int 999]
theorem zc7 {k:Int} (h0:0 ≤ k) (h1:k < 9):∃ n,yW n ∧ atI (Yf.map W.d) k = some (.d n) := by
  rcases (by omega:k = 0 ∨ k = 1 ∨ k = 2 ∨ k = 3 ∨ k = 4 ∨ k = 5 ∨ k = 6 ∨ k = 7 ∨ k = 8) with rfl | rfl | rfl | rfl | rfl | rfl | rfl | rfl | rfl
  · exact ⟨.none,trivial,rfl⟩
  · exact ⟨.int 0,⟨by decide,by decide⟩,rfl⟩
  · exact ⟨.int 1,⟨by decide,by decide⟩,rfl⟩
  · exact ⟨.int 2,⟨by decide,by decide⟩,rfl⟩
  · exact ⟨.int 3,⟨by decide,by decide⟩,rfl⟩
  · exact ⟨.int 1,⟨by decide,by decide⟩,rfl⟩
  · exact ⟨.int 4,⟨by decide,by decide⟩,rfl⟩
  · exact ⟨.int 5,⟨by decide,by decide⟩,rfl⟩
  · exact ⟨.int 999,⟨by decide,by decide⟩,rfl⟩
theorem zgi {wd hg:Nat} (w1:1 ≤ wd) (w2:wd ≤ 24) (h1:1 ≤ hg) (h2:hg ≤ 12):Bds (st0 wd hg fun _ _ => xB 0) := by
  constructor <;> simp only [st0] <;> first | decide | omega
section
variable {P:Program} {w:World} {K:PySem.W.Frag} {mg:Str → Option Value} {base:Heap} {f C bw:Addr} {fd:FuncData}
seal L2.PE L2.PS L2.PSs L2.PT L2.PA in
theorem zeL (F:Fun K "law" "law" QY f fd) (T:Txt P w K mg C bw) (zhq:Cal P w K mg base 1 "_law_size" [] (zb K Vs)) (zhm:Cal P w K mg base 1 "_law_mixed" [] (zb K QO)) (zhe:Cal P w K mg base 1 "_law_at" [] (zb K kW)) (c_State:CalM P w K mg base 4 "State" C (zb K (Qu C))) (zhf:Cal P w K mg base 1 "_law_begun" [] (zb K YA)) (zhg:Cal P w K mg base 6 "_law_deed" [] (zb K (sDeed20 C))) (zhv:Cal P w K mg base 3 "asked" [] (zb K (Z5 C))) (zhd:Cal P w K mg base 2 "_law_asked" [] (zb K kX)) (zhl:Cal P w K mg base 2 "_law_like" [] (zb K (Xv C))) (zhc:Cal P w K mg base 6 "_law_above" [] (zb K (sAbove C))):FnOk P w K mg base CX0 7 f fd ["_law_script"] (zb K sLaw) := by
  have nd := J9.nd
  apply F.okV J9 (by rintro _ _ _ ⟨ns,rfl,_⟩; rfl) (fun cdv A outer sh H E hr => (zc (qT (zk zhq (hr.mono (by decide)) rfl (QA.pa (qc (zk zhm (hr.mono (by decide)) rfl (QA.pa (qc (zk zhe (hr.mono (by decide)) rfl (QA.pa (qc (pv 0) (qc za qn)))) (qc za qn)))) qn))) (uj (K := K) (n := 2) rfl rfl (yL (zM (i := 1) nd rfl (Or.inl rfl)) (yL (zM (i := 2) nd rfl (Or.inl rfl)) ud))))
      (zc (zD (i := 3) nd rfl (Or.inl rfl) (zdJ c_State (hr.mono (by decide)) rfl (QA.pa (qc (pv 1) (qc (pv 2) qn)))))
      (zc (zD (i := 4) nd rfl (Or.inl rfl) (zk zhf (hr.mono (by decide)) rfl (QA.pa (qc (pv 1) (qc (pv 2) qn)))))
      (zc (xy (zq hr) (pv 4) zg (uh qn) rfl)
      (zc (zD (i := 5) nd rfl (Or.inl rfl) (uh qn))
      (zc (vZ PassesOwn.never rfl (zan (K := K) rfl rfl T.n_enumerate (QA.pa (qc (Kw (zdF (K := K) rfl) (pv 0) (Uw za) (Uw za)) qn))) (uj (K := K) (n := 2) rfl rfl (yL (zM (i := 6) nd rfl (Or.inl rfl)) (yL (zM (i := 7) nd rfl (Or.inr rfl)) ud)))
      (zc (zD (i := 8) nd rfl (Or.inl rfl) (zk zhm (hr.mono (by decide)) rfl (QA.pa (qc (pv 7) (qc (pv 6) qn)))))
      (zc (zB (PW.pt (jn (zl jp (yI (ZR (K := K) rfl) (by rfl) T.n_len (by rfl) (QA.pa (qc (zj (zq hr) (pv 4) zg (fun _ _ => rfl)) qn))) za (zo _)) (jV (zl jp (zh ye (pv 8) za) za (zo _))))) (zd (zr (zk zhg (hr.mono (by decide)) rfl (QA.pa (qc (pv 3) (qc (pv 4) (qc (pv 8) qn))))))) zL)
      (zc (zD (i := 9) nd rfl (Or.inr rfl) (kS rfl))
      (zc (zD (i := 10) nd rfl (Or.inl rfl) (xQ (zei (K := K) rfl) (by rfl) T.n_tuple rfl (QA.pa (qc (zex (qD (N := ["_law_j","_law_some","_law_cell"]) (n := 1) (js := [9,7])) rfl (uw rfl T.n_range (QA.pa (qc (zh yK za (zh ye (zh yt (pv 8) za) za)) qn))) (fun _ _ _ _ => (zM (i := 0) (show List.Nodup (["_law_j","_law_some","_law_cell"]:List Str) by decide +kernel) rfl (Or.inl rfl))) (fun _ _ _ _ => uN) (fun _ _ _ _ => (yN (vH (K := K) rfl) (pv 1) (zh ye (zk zhm (hr.mono (by decide)) rfl (QA.pa (qc (pv 2) (qc (zh yK za (pv 0)) qn)))) za) (fun _ _ => rfl)))) qn))))
      (zc (zD (i := 11) nd rfl (Or.inl rfl) (zk zhv (hr.mono (by decide)) rfl (QA.pa (qc (pv 3) (qc (pv 10) qn)))))
      (zc (zB (PW.pt (jn (Zy (uv (yI (zeA (K := K) rfl) (by rfl) T.n_isinstance (by rfl) (QA.pa (qc (pv 11) (qc (Yi (v := .ty "list") (u := .type "list") rfl T.n_list rfl rfl) qn)))))) (jn (zl (JU (K := K) rfl hr.units) (pv 11) (zk zhd (hr.mono (by decide)) rfl (QA.pa (qc (pv 4) (qc (pv 10) qn)))) (zo _)) (jV (Zy (uv (zk zhl (hr.mono (by decide)) rfl (QA.pa (qc (pv 3) (qc (pv 4) qn)))))))))) (zd (zC xH)) zL)
      (zc (zr (xj (K := K) rfl PySem.F.plainAttrs_list PySem.F.slot_list_append PySem.F.type_list_append y6 (pv 11) (QA.pa (qc zg qn))))
      (zd (zr (xj (K := K) rfl PySem.F.plainAttrs_list PySem.F.slot_list_append PySem.F.type_list_append y6 (pv 5) (QA.pa (qc (zcN (qc (pv 11) (qc (xQ (zeS (K := K) rfl) (by rfl) T.n_list rfl (QA.pa (qc (pv 11) qn))) qn))) qn)))))))))))))
      (zc (zB (PW.pt (qS (zl uI (pv 2) za (zo _)) (qS (zl jp (yI (ZR (K := K) rfl) (by rfl) T.n_len (by rfl) (QA.pa (qc (zj (zq hr) (pv 4) zg (fun _ _ => rfl)) qn))) za (zo _)) (qR (Zy (uv (zk zhc (hr.mono (by decide)) rfl (QA.pa (qc (pv 3) (qc (pv 4) qn)))))))))) (zd (zC xH)) zL)
      (zd (zC (uM (Va (K := K) rfl hr.units) (kO (qD (N := ["_law_old"]) (n := 1) (js := [])) rfl (Zr (K := K) rfl (pv 5)) (fun _ _ _ _ => (zM (i := 0) (show List.Nodup (["_law_old"]:List Str) by decide +kernel) rfl (Or.inl rfl))) (fun _ _ _ _ => (kN (zl (JU (K := K) rfl hr.units) (yN (xC (K := K) rfl) (pv 0) za (fun _ _ => rfl)) (yN (xC (K := K) rfl) (pv 0) za (fun _ _ => rfl)) (zo _)))) (fun _ _ _ _ => (pv 0))) (xx qn) (zo _))))))))))))
  · walk_at "ref"
  rintro _ O R ⟨ns,rfl,_,hlen,h⟩
  refine yG (fun ρ' O' => ∃ wd hg:Nat,1 ≤ wd ∧ wd ≤ 24 ∧ 1 ≤ hg ∧ hg ≤ 12 ∧ ρ' = [some (.d (.list (ns.map .int))),some (.d (.int wd)),some (.d (.int hg)),none,none,none,none,none,none,none,none,none] ∧ O = O') (fun R1 hR1 => ?_) ?_
  · walk_at "wd"
    exact ⟨ns,rfl,0,rfl,_,1,rfl,by decide,by decide,fun n n0 _ => ⟨n,rfl,n0,fun wd hg a b c e => ⟨_,rfl,rfl,_,_,rfl,_,_,rfl,rfl,hR1 _ _ ⟨wd,hg,a,b,c,e,rfl,rfl⟩⟩⟩⟩
  rintro _ _ ⟨wd,hg,w1,w2,h1,h2,rfl,rfl⟩
  refine yG (fun ρ' O' => ∃ x dx p st kp,ρ' = [some (.d (.list (ns.map .int))),some (.d (.int wd)),some (.d (.int hg)),some (.own x),none,none,none,none,none,none,none,none] ∧ StAt O' C x dx p st kp (st0 wd hg fun _ _ => xB 0)) (fun R1 hR1 => ?_) ?_
  · walk_at "wd"
    exact fun x dx hx => ⟨x,dx,wd,hg,rfl,ze,w1,w2,h1,h2,fun p st kp O' _ _ _ hs _ => ⟨rfl,hR1 _ _ ⟨x,dx,p,st,kp,rfl,hs⟩⟩⟩
  rintro _ O1 ⟨x,dx,p,st,kp,rfl,hs1⟩
  refine yG (fun ρ' O' => ∃ d sp,ρ' = [some (.d (.list (ns.map .int))),some (.d (.int wd)),some (.d (.int hg)),some (.own x),some (.own d),none,none,none,none,none,none,none] ∧ StAt O' C x dx p st kp (st0 wd hg fun _ _ => xB 0) ∧ O' d = some (.dK ((mW ⟨sp,sp,sp⟩ (st0 wd hg fun _ _ => xB 0)).take 14)) ∧ O' sp = some (.lst (((stopsI wd).map .int).map .d)) ∧ d ≠ st ∧ sp ≠ kp ∧ d ≠ sp) (fun R1 hR1 => ?_) ?_
  · walk_at "wd"
    refine ⟨wd,hg,rfl,w1,w2,h1,h2,fun d sp O' q1 q2 q3 q4 q5 q6 => hR1 _ _ ⟨d,sp,rfl,hs1.butO (q6.butO (xs := [])) (by simp) (by simp) (by simp) (by simp),q4,q5,?_,?_,q3⟩⟩
    · rintro rfl; rw [hs1.st] at q1; cases q1
    · rintro rfl; rw [hs1.kp] at q2; cases q2
  rintro _ O2 ⟨d,sp,rfl,hs2,hd2,hsp2,n1,n2,n3⟩
  refine yG (fun ρ' O' => ∃ kq,ρ' = [some (.d (.list (ns.map .int))),some (.d (.int wd)),some (.d (.int hg)),some (.own x),some (.own d),none,none,none,none,none,none,none] ∧ Tw O' C x dx p st kp d ⟨sp,kq,kq⟩ (st0 wd hg fun _ _ => xB 0) (st0 wd hg fun _ _ => xB 0)) (fun R1 hR1 => ?_) ?_
  · walk_at "wd"
    intro kq hkq
    have dk:d ≠ kq := fun e => by rw [← e,hd2] at hkq; cases hkq
    have sk:sp ≠ kq := fun e => by rw [← e,hsp2] at hkq; cases hkq
    have kk:kq ≠ kp := fun e => by rw [e,hs2.kp] at hkq; cases hkq
    refine ⟨_,(zf dk).trans hd2,by show 14 < 1000; omega,hR1 _ _ ⟨kq,rfl,⟨hs2.butO (ButO.trans (ButO.new hkq) (ButO.upd (a := d) (xs := [d]) (by simp))) ?_ ?_ ?_ ?_,⟨ze,?_,?_⟩,n1,n2,kk,sk⟩⟩⟩
    · simp only [List.mem_singleton]; exact neW hs2.x hd2 (by intro h; cases h)
    · simp only [List.mem_singleton]; exact neW hs2.p hd2 (by intro h; cases h)
    · simp only [List.mem_singleton]; exact Ne.symm n1
    · simp only [List.mem_singleton]; exact neW hs2.kp hd2 (by intro h; cases h)
    · rw [zf (Ne.symm n3),zf sk]; exact hsp2
    · rw [zf (Ne.symm dk),ze]; rfl
  rintro _ O3 ⟨kq,rfl,ht3⟩
  refine yG (fun ρ' O' => ∃ ol,ρ' = [some (.d (.list (ns.map .int))),some (.d (.int wd)),some (.d (.int hg)),some (.own x),some (.own d),some (.own ol),none,none,none,none,none,none] ∧ Tw O' C x dx p st kp d ⟨sp,kq,kq⟩ (st0 wd hg fun _ _ => xB 0) (st0 wd hg fun _ _ => xB 0) ∧ O' ol = some (.lst []) ∧ ol ∉ [x,p,st,kp,d,sp,kq]) (fun R1 hR1 => ?_) ?_
  · walk_at "wd"
    refine fun ol hol => hR1 _ _ ⟨ol,rfl,ht3.old (Old.refl.upd hol),ze,?_⟩
    have a1 := ht3.s.x; have a2 := ht3.s.p; have a3 := ht3.s.st; have a4 := ht3.s.kp; have a5 := ht3.m.d; have a6 := ht3.m.sp; have a7 := ht3.m.kq
    simp only [List.mem_cons,List.not_mem_nil,or_false,not_or]
    refine ⟨?_,?_,?_,?_,?_,?_,?_⟩ <;> rintro rfl
    · rw [hol] at a1; cases a1
    · rw [hol] at a2; cases a2
    · rw [hol] at a3; cases a3
    · rw [hol] at a4; cases a4
    · rw [hol] at a5; cases a5
    · rw [hol] at a6; cases a6
    · rw [hol] at a7; cases a7
  rintro _ O4 ⟨ol,rfl,ht4,hol4,hno⟩
  have hB0 := zgi w1 w2 h1 h2
  obtain ⟨A,eA⟩:∃ A:MA,A = ⟨sp,kq,kq⟩ := ⟨_,rfl⟩
  rw [← eA] at ht4
  have hno':ol ∉ [x,p,st,kp,d,A.sp,A.kq] := by rw [eA]; exact hno
  have ha4:All20 O4 C x dx p st kp d A (st0 wd hg fun _ _ => xB 0) := ⟨ht4,hB0,⟨by simp [st0],by simp [st0]⟩,rfl⟩
  clear hno ht4 ht3 hs2 hd2 hsp2
  refine yG (fun ρ' O' => ∃ S,∃ ts:List PyData,∃ v6 v7 v8 v9 v10 v11,ρ' = [some (.d (.list (ns.map .int))),some (.d (.int wd)),some (.d (.int hg)),some (.own x),some (.own d),some (.own ol),v6,v7,v8,v9,v10,v11] ∧ All20 O' C x dx p st kp d A S ∧ O' ol = some (.lst (ts.map .d)) ∧ ts.length ≤ 64 ∧ ∀ t ∈ ts,Pr t) (fun R1 hR1 => ?_) ?_
  · walk_at "wd"
    have hcm:∀ d ∈ ke (ns.map PyData.int) (some 1) (some 17),∃ n ∈ ns,d = .int n := fun d hd => by
      unfold ke at hd
      obtain ⟨n,hn,rfl⟩ := List.mem_map.1 (List.mem_of_mem_drop (List.mem_of_mem_take hd))
      exact ⟨n,hn,rfl⟩
    have hcl:(ke (ns.map PyData.int) (some 1) (some 17)).length ≤ 63 := by
      unfold ke
      rw [List.length_take,List.length_drop,List.length_map]
      omega
    generalize hcu:ke (ns.map PyData.int) (some 1) (some 17) = cu at hcl hcm
    refine ⟨_,rfl,_,xL _,?_⟩
    rw [hcu]
    refine ⟨_,rfl,_,xL _,?_⟩
    refine xV.by (fun i ρ O' => ∃ S,∃ ts:List PyData,∃ v6 v7 v8 v9 v10 v11,ρ = [some (.d (.list (ns.map .int))),some (.d (.int wd)),some (.d (.int hg)),some (.own x),some (.own d),some (.own ol),v6,v7,v8,v9,v10,v11] ∧ All20 O' C x dx p st kp d A S ∧ O' ol = some (.lst (ts.map .d)) ∧ ts.length ≤ i ∧ ∀ t ∈ ts,Pr t) ⟨_,[],_,_,_,_,_,_,rfl,ha4,hol4,by simp,by simp⟩ (fun _ _ _ _ => rfl) ?_ ?_
    · rintro i u _ O5 hu ⟨S,ts,v6,v7,v8,v9,v10,v11,rfl,ha5,hol5,htl,hts⟩ R2 hR2
      rw [List.getElem?_zipWith] at hu
      cases hr:(List.range cu.length)[i]? with
      | none => rw [hr] at hu; cases hu
      | some k =>
      rw [hr] at hu
      cases hdi:cu[i]? with
      | none => rw [hdi] at hu; cases hu
      | some dd =>
      rw [hdi] at hu
      cases hu
      have hk := List.mem_range.mp (List.mem_of_getElem? hr)
      have hik:i < cu.length := (List.getElem?_eq_some_iff.1 hdi).1
      have k1:(k:Int) ≤ 1000 := by omega
      obtain ⟨c,_,rfl⟩ := hcm dd (List.mem_of_getElem? hdi)
      simp only [K9,Qq,K7,Xn,xK]
      refine ⟨_,rfl,rfl,_,_,rfl,_,_,rfl,rfl,?_⟩
      refine yG (fun ρ' O' => ∃ n:Int,0 ≤ n ∧ ρ' = [some (.d (.list (ns.map .int))),some (.d (.int wd)),some (.d (.int hg)),some (.own x),some (.own d),some (.own ol),some (.d (.int k)),some (.d (.int c)),some (.d (.int n)),v9,v10,v11] ∧ O5 = O') (fun R3 hR3 => ?_) ?_
      · walk_at "wd"
        exact ⟨c,k,rfl,by omega,k1,fun n n0 _ => hR3 _ _ ⟨n,n0,rfl,rfl⟩⟩
      rintro _ _ ⟨n,n0,rfl,rfl⟩
      refine yG (fun ρ' O' => ∃ S',ρ' = [some (.d (.list (ns.map .int))),some (.d (.int wd)),some (.d (.int hg)),some (.own x),some (.own d),some (.own ol),some (.d (.int k)),some (.d (.int c)),some (.d (.int n)),v9,v10,v11] ∧ All20 O' C x dx p st kp d A S' ∧ O' ol = some (.lst (ts.map .d))) (fun R3 hR3 => ?_) ?_
      · have hd5 := ha5.t.m.d
        have hkq5 := ha5.t.m.kq
        walk_at "wd"
        simp [hd5,hkq5,and_assoc,zp,yj,ze,zt,zO,zP,yk,zu,zQ,yl,zR,zv,zS,ym,zw,zT,zE,zF,zU,yn,zx,zV,yo,zW,zy,zX,yp,zz,zY,zG,zH,zZ]
        have lk:kb O5 (.own A.kq) = some S.kept.length := by simp [kb,xK,yd,hkq5]
        have far:∀ O',Far O5 O' x p st kp d A → O' ol = some (.lst (ts.map .d)) := fun O' hf => hf.old hol5 hno'
        refine ⟨_,lk,?_⟩
        split
        · rename_i e
          exact ⟨x,dx,p,st,kp,d,A,S,n,rfl,ha5,n0,.inl (by omega),fun S' O' q1 _ _ q4 => hR3 _ _ ⟨S',rfl,q1,far O' q4⟩⟩
        · split
          · rename_i e
            exact ⟨x,dx,p,st,kp,d,A,S,n,rfl,ha5,n0,.inr e,fun S' O' q1 _ _ q4 => hR3 _ _ ⟨S',rfl,q1,far O' q4⟩⟩
          · exact hR3 _ _ ⟨S,rfl,ha5,hol5⟩
      rintro _ O6 ⟨S',rfl,ha6,hol6⟩
      refine qw (fun ρ' O' => ∃ nums:List PyData,nums.length ≤ 6 ∧ (∀ n ∈ nums,yW n) ∧ ρ' = [some (.d (.list (ns.map .int))),some (.d (.int wd)),some (.d (.int hg)),some (.own x),some (.own d),some (.own ol),some (.d (.int k)),some (.d (.int c)),some (.d (.int n)),some (.d (.list Yf)),some (.d (.tuple nums)),v11] ∧ O6 = O') (fun R3 hR3 => ?_) ?_
      · walk_at "wd"
        refine ⟨⟨by omega,by omega⟩,by omega,by omega,by omega,yW,?_,?_⟩
        · intro a ha us hus
          match us,hus with
          | [u],_ =>
            refine ⟨rfl,rfl,?_⟩
            refine ⟨c,20 + (a:Int),rfl,by omega,by omega,fun m m0 m1 => ?_⟩
            obtain ⟨y,hy,ey⟩ := zc7 (k := m % 9) (by omega) (by omega)
            exact ⟨by decide,_,rfl,_,ey,rfl,y,rfl,hy⟩
        · exact fun ds e1 e2 => ⟨ds,by simp [jt,xK,yd,xL],hR3 _ _ ⟨ds,by omega,e2,rfl,rfl⟩⟩
      rintro _ _ ⟨nums,nl,hnums,rfl,rfl⟩
      refine yG (fun ρ' O' => ∃ q,O6 q = none ∧ ρ' = [some (.d (.list (ns.map .int))),some (.d (.int wd)),some (.d (.int hg)),some (.own x),some (.own d),some (.own ol),some (.d (.int k)),some (.d (.int c)),some (.d (.int n)),some (.d (.list Yf)),some (.d (.tuple nums)),some (.own q)] ∧ O' q = some (.lst (((xA S' nums).map .str).map .d)) ∧ Old O6 O') (fun R3 hR3 => ?_) ?_
      · walk_at "wd"
        exact ⟨x,dx,p,st,kp,S',nums,rfl,nl,hnums,ha6.t.s,ha6.b,fun q O' g1 g2 g3 => hR3 _ _ ⟨q,g1,rfl,g2,g3⟩⟩
      rintro _ O7 ⟨q,hq6,rfl,hq7,ho7⟩
      have okA := UU ha6.b nums
      obtain ⟨sh1,sh2⟩ := YN okA
      have al := jL (S := S') nums
      refine yG (fun ρ' O' => ρ' = [some (.d (.list (ns.map .int))),some (.d (.int wd)),some (.d (.int hg)),some (.own x),some (.own d),some (.own ol),some (.d (.int k)),some (.d (.int c)),some (.d (.int n)),some (.d (.list Yf)),some (.d (.tuple nums)),some (.own q)] ∧ Old O7 O') (fun R3 hR3 => ?_) ?_
      · walk_at "wd"
        refine ⟨⟨_,hq7⟩,d,A,S',nums,rfl,nl,hnums,(ha6.t.old ho7).m,ha6.b,fun q2 O8 a1 a2 a3 => ?_⟩
        have hq8:O8 q = some (.lst (((xA S' nums).map .str).map .d)) := by rw [a3 q (by rw [hq7]; simp)]; exact hq7
        refine ⟨.list ((xA S' nums).map .str),by simp only [ug,hq8,xL]; rfl,.list ((xA S' nums).map .str),by simp only [ug,a2,xL]; rfl,sh1,sh1,?_⟩
        rw [if_pos sh2]
        obtain ⟨l1,l2⟩ := VY ha6.b ha6.s
        exact ⟨x,dx,p,st,kp,d,A,S',rfl,(ha6.t.old ho7).old a3,ha6.b,l1,l2,(iff_of_eq (if_pos rfl)).mpr (hR3 _ _ ⟨rfl,a3⟩)⟩
      rintro _ O8 ⟨rfl,ho8⟩
      have hq8:O8 q = some (.lst (((xA S' nums).map .str).map .d)) := by rw [ho8 q (by rw [hq7]; simp)]; exact hq7
      refine yG (fun ρ' O' => ρ' = [some (.d (.list (ns.map .int))),some (.d (.int wd)),some (.d (.int hg)),some (.own x),some (.own d),some (.own ol),some (.d (.int k)),some (.d (.int c)),some (.d (.int n)),some (.d (.list Yf)),some (.d (.tuple nums)),some (.own q)] ∧ O' = updO O8 q (.lst (((xA S' nums ++ [Str.ofString "more"]).map .str).map .d))) (fun R3 hR3 => ?_) ?_
      · walk_at "wd"
        refine ⟨.inl ⟨rfl,by simp [yd,hq8]⟩,_,?_,hR3 _ _ ⟨rfl,rfl⟩⟩
        simp only [ua,hq8]
        rw [if_pos (by simp; omega)]
        simp
      rintro _ _ ⟨rfl,rfl⟩
      have okB:∀ z ∈ xA S' nums ++ [Str.ofString "more"],PyData.strOk z = true := fun z hz => by
        rcases List.mem_append.1 hz with hz | hz
        · exact okA z hz
        · cases List.mem_singleton.1 hz; decide +kernel
      generalize xA S' nums ++ [Str.ofString "more"] = L at okB
      walk_at "wd"
      have olq:ol ≠ q := fun e => by rw [e,hq6] at hol6; cases hol6
      have hol7:O7 ol = some (.lst (ts.map .d)) := by rw [ho7 ol (by rw [hol6]; simp)]; exact hol6
      have hol8:O8 ol = some (.lst (ts.map .d)) := by rw [ho8 ol (by rw [hol7]; simp)]; exact hol7
      have eL:List.map (W.d ∘ PyData.str) L = (L.map PyData.str).map W.d := by rw [List.map_map]
      rw [eL]
      refine ⟨.inl ⟨rfl,by simp [yd,zf olq,hol8]⟩,L.map .str,by simp only [jt,xK,yd,ze,Option.bind_some,xL],[.list (L.map .str),.list (L.map .str)],del (updO O8 q (.lst ((L.map PyData.str).map W.d))) q,by simp only [frzs,frz,ze,xL,Option.map_some],by show 2 ≤ 1000; omega,updO (del (updO O8 q (.lst ((L.map PyData.str).map W.d))) q) ol (.lst ((ts ++ [PyData.tuple [.list (L.map .str),.list (L.map .str)]]).map .d)),?_,hR2 _ _ ⟨S',ts ++ [.tuple [.list (L.map .str),.list (L.map .str)]],_,_,_,_,_,_,rfl,?_,ze,by simp; omega,?_⟩⟩
      · have:del (updO O8 q (.lst ((L.map PyData.str).map W.d))) q ol = some (.lst (ts.map .d)) := by rw [x8 olq,zf olq]; exact hol8
        simp only [ua,this]
        rw [if_pos (by simp; omega)]
        simp
      · have bo:ButO O6 (updO (del (updO O8 q (.lst ((L.map PyData.str).map W.d))) q) ol (.lst ((ts ++ [PyData.tuple [.list (L.map .str),.list (L.map .str)]]).map .d))) [ol] := fun b hb h0 => by
          have b1:b ≠ ol := fun e => hb (by simp [e])
          have b2:b ≠ q := fun e => h0 (by rw [e]; exact hq6)
          rw [zf b1,x8 b2,zf b2,ho8 b (by rw [ho7 b h0]; exact h0),ho7 b h0]
        have hn := hno'
        simp only [List.mem_cons,List.not_mem_nil,or_false,not_or] at hn
        obtain ⟨m1,m2,m3,m4,m5,m6,m7⟩ := hn
        exact ⟨⟨ha6.t.s.butO bo (by simpa using Ne.symm m1) (by simpa using Ne.symm m2) (by simpa using Ne.symm m3) (by simpa using Ne.symm m4),ha6.t.m.butO bo (by simpa using Ne.symm m5) (by simpa using Ne.symm m6) (by simpa using Ne.symm m7),ha6.t.ds,ha6.t.ak,ha6.t.bk,ha6.t.ab⟩,ha6.b,ha6.k,ha6.s⟩
      · intro t ht
        rcases List.mem_append.1 ht with ht | ht
        · exact hts t ht
        · cases List.mem_singleton.1 ht
          exact ⟨L,rfl,okB⟩
    · rintro ρ O5 ⟨S,ts,v6,v7,v8,v9,v10,v11,rfl,ha5,hol5,htl,hts⟩
      exact hR1 _ _ ⟨S,ts,_,_,_,_,_,_,rfl,ha5,hol5,by simp at htl; omega,hts⟩
  rintro _ O5 ⟨S,ts,v6,v7,v8,v9,v10,v11,rfl,ha5,hol5,htl,hts⟩
  refine yG (fun ρ' O' => ρ' = [some (.d (.list (ns.map .int))),some (.d (.int wd)),some (.d (.int hg)),some (.own x),some (.own d),some (.own ol),v6,v7,v8,v9,v10,v11] ∧ O' ol = some (.lst (ts.map .d))) (fun R1 hR1 => ?_) ?_
  · have hd5 := ha5.t.m.d
    have hkq5 := ha5.t.m.kq
    walk_at "wd"
    simp [hd5,hkq5,and_assoc,zp,yj,ze,zt,zO,zP,yk,zu,zQ,yl,zR,zv,zS,ym,zw,zT,zE,zF,zU,yn,zx,zV,yo,zW,zy,zX,yp,zz,zY,zG,zH,zZ]
    have lk:kb O5 (.own A.kq) = some S.kept.length := by simp [kb,xK,yd,hkq5]
    split
    · refine ⟨_,lk,?_⟩
      split
      · exact ⟨x,dx,p,st,kp,d,A,S,rfl,ha5,by omega,fun O' hf => (iff_of_eq (if_pos rfl)).mpr (hR1 _ _ ⟨rfl,hf.old hol5 hno'⟩)⟩
      · exact hR1 _ _ ⟨rfl,hol5⟩
    · exact hR1 _ _ ⟨rfl,hol5⟩
  rintro _ O6 ⟨rfl,hol6⟩
  walk_at "wd"
  refine ⟨ts.map .d,by simp only [yd,hol6],by simp; omega,fun _ => none,?_,?_⟩
  · intro w hw us hus
    obtain ⟨t,ht,rfl⟩ := List.mem_map.1 hw
    obtain ⟨l,rfl,hl⟩ := hts t ht
    obtain ⟨a1,a2⟩ := YN hl
    match us,hus with
    | [u],_ =>
      refine ⟨rfl,rfl,_,rfl,_,rfl,_,rfl,_,rfl,_,rfl,_,rfl,a1,a1,?_⟩
      rw [if_pos a2]
      rfl
  · have e:List.filterMap (fun _ => (none:Option PyData)) (ts.map W.d) = [] := by simp
    rw [e]
    exact ⟨_,rfl,_,rfl,rfl,rfl,.inl (h _)⟩
end
theorem fk {K:PySem.W.Frag} {h:Heap} {mg:Str → Option Value} {x:Str} {st:Stmt} {f:Addr} {oc kV doc pm cd ct:Value} {od an:Option Addr} {sl:Array (Option Value)} (X:K.In h) (G:h.Ns mainGlobals mg)
    (a:PySem.W.nsIn K mainGlobals x = some (some (.ref f))) (l:K.lookup f = some ⟨oc,od,.func (PySem.W.fnOf x x (defArgs st) (defBody st) (defScope st) .none kV doc pm an cd ct),sl⟩) (c:PySem.W.codeIn K cd x = true) (k:PySem.W.keepIn K (.ref f) = true) :
    ∃ f fd,Fun K x x st f fd ∧ mg x = some (.ref f) := ⟨f,_,XQ (st := st) l c k,PySem.W.mg_of X G a⟩
theorem fkD {K:PySem.W.Frag} {h:Heap} {mg:Str → Option Value} {x:Str} {st:Stmt} {f D:Addr} {oc kV doc pm cd ct:Value} {od an:Option Addr} {sl:Array (Option Value)} {oD:Obj} {ds:List Value} {n:Nat} (X:K.In h) (G:h.Ns mainGlobals mg)
    (a:PySem.W.nsIn K mainGlobals x = some (some (.ref f))) (l:K.lookup f = some ⟨oc,od,.func (PySem.W.fnOf x x (defArgs st) (defBody st) (defScope st) (.ref D) kV doc pm an cd ct),sl⟩) (c:PySem.W.codeIn K cd x = true) (k:PySem.W.keepIn K (.ref f) = true)
    (t:K.lookup D = some oD) (e:oD.data = .seq ds.toArray n):∃ f fd,FunD K x x st ds f fd ∧ mg x = some (.ref f) := ⟨f,_,⟨⟨oc,od,kV,doc,pm,an,cd,ct,sl,D,oD,n,rfl,l,c,t,e⟩,k⟩,PySem.W.mg_of X G a⟩
theorem mk_State {K:PySem.W.Frag} {C f:Addr} {oc kV doc pm cd ct:Value} {od an:Option Addr} {sl:Array (Option Value)} (mk:PySem.W.makesIn K C = true) (a1:PySem.W.findIn K (.ref C) "__init__" = some (some (.ref f))) (i1:PySem.W.isFn K (.ref f) = true) (kc:PySem.W.keepIn K (.ref C) = true)
    (l:K.lookup f = some ⟨oc,od,.func (PySem.W.fnOf "__init__" "State.__init__" (defArgs y7) (defBody y7) (defScope y7) .none kV doc pm an cd ct),sl⟩) (c:PySem.W.codeIn K cd "State.__init__" = true) (k:PySem.W.keepIn K (.ref f) = true) :
    ∃ f fd,Mk K C f ∧ Fun K "__init__" "State.__init__" y7 f fd := ⟨f,_,⟨mk,a1,i1,kc⟩,XQ (st := y7) l c k⟩
theorem mt_begin {K:PySem.W.Frag} {C f:Addr} {oc kV doc pm cd ct:Value} {od an:Option Addr} {sl:Array (Option Value)} (a1:PySem.W.findIn K (.ref C) "begin" = some (some (.ref f))) (i1:PySem.W.isFn K (.ref f) = true)
    (l:K.lookup f = some ⟨oc,od,.func (PySem.W.fnOf "begin" "State.begin" (defArgs xw) (defBody xw) (defScope xw) .none kV doc pm an cd ct),sl⟩) (c:PySem.W.codeIn K cd "State.begin" = true) (k:PySem.W.keepIn K (.ref f) = true) :
    ∃ f fd,Meth K C "begin" f ∧ Fun K "begin" "State.begin" xw f fd := ⟨f,_,⟨a1,i1,k⟩,XQ (st := xw) l c k⟩
theorem V0 {K:PySem.W.Frag} {f:Addr} {fd:FuncData} {d:Value} (F:FunD K "blank_row" "blank_row" vQ [d] f fd):Binds K fd ["wide","ink"] [] :=
  F.binds fun T kV doc pm an cdv ct us hl => match us,hl with | [_,_],_ => ⟨_,rfl,rfl⟩
theorem Xf {K:PySem.W.Frag} {f:Addr} {fd:FuncData} {d:Value} (F:FunD K "blank_row" "blank_row" vQ [d] f fd):Binds K fd ["wide","ink"] [d] :=
  F.binds fun T kV doc pm an cdv ct us hl => by
    have h2:us.length = 1 := by simpa using hl
    match us,h2 with
    | [_],_ => exact ⟨_,rfl,rfl⟩
theorem Zx {K:PySem.W.Frag} {f:Addr} {fd:FuncData} {d:Value} (F:FunD K "blank_picture" "blank_picture" xR [d] f fd):Binds K fd ["wide","high","ink"] [] :=
  F.binds fun T kV doc pm an cdv ct us hl => match us,hl with | [_,_,_],_ => ⟨_,rfl,rfl⟩
theorem Zb {K:PySem.W.Frag} {f:Addr} {fd:FuncData} {d:Value} (F:FunD K "blank_picture" "blank_picture" xR [d] f fd):Binds K fd ["wide","high","ink"] [d] :=
  F.binds fun T kV doc pm an cdv ct us hl => by
    have h2:us.length = 2 := by simpa using hl
    match us,h2 with
    | [_,_],_ => exact ⟨_,rfl,rfl⟩
theorem Kg {K:PySem.W.Frag} {f:Addr} {fd:FuncData} {d:Value} (F:FunD K "ink_of" "ink_of" u6 [d] f fd):Binds K fd ["fore","back","marks"] [] :=
  F.binds fun T kV doc pm an cdv ct us hl => match us,hl with | [_,_,_],_ => ⟨_,rfl,rfl⟩
theorem Q6 {K:PySem.W.Frag} {f:Addr} {fd:FuncData} {d:Value} (F:FunD K "ink_of" "ink_of" u6 [d] f fd):Binds K fd ["fore","back","marks"] [d] :=
  F.binds fun T kV doc pm an cdv ct us hl => by
    have h2:us.length = 2 := by simpa using hl
    match us,h2 with
    | [_,_],_ => exact ⟨_,rfl,rfl⟩
theorem all_mk {P:Program} {w:World} {K:PySem.W.Frag} {mg:Str → Option Value} {fa C bw:Addr} (T:Txt P w K mg C bw) (hfa:mg "law" = some (.ref fa)) (e_State:∃ f fd,Mk K C f ∧ Fun K "__init__" "State.__init__" y7 f fd) (e_begin:∃ f fd,Meth K C "begin" f ∧ Fun K "begin" "State.begin" xw f fd)
    (zi9:∃ f fd,Fun K "_law_size" "_law_size" qM f fd ∧ mg "_law_size" = some (.ref f))
    (zi5:∃ f fd,Fun K "_law_mixed" "_law_mixed" u9 f fd ∧ mg "_law_mixed" = some (.ref f))
    (ziX:∃ f fd,Fun K "_law_at" "_law_at" kD f fd ∧ mg "_law_at" = some (.ref f))
    (zjt:∃ f fd,Fun K "is_whole" "is_whole" jE f fd ∧ mg "is_whole" = some (.ref f))
    (zjs:∃ f fd,Fun K "is_size" "is_size" ku f fd ∧ mg "is_size" = some (.ref f))
    (zjn:∃ f fd,Fun K "first_stops" "first_stops" uC f fd ∧ mg "first_stops" = some (.ref f))
    (ziY:∃ f fd,Fun K "_law_begun" "_law_begun" qd f fd ∧ mg "_law_begun" = some (.ref f))
    (zi7:∃ f fd,Fun K "_law_number" "_law_number" uE f fd ∧ mg "_law_number" = some (.ref f))
    (zjf:∃ f fd,Fun K "at_least_one" "at_least_one" uq f fd ∧ mg "at_least_one" = some (.ref f))
    (zjj:∃ f fd,Fun K "counted" "counted" kB f fd ∧ mg "counted" = some (.ref f))
    (zjC:∃ f fd,Fun K "to_place" "to_place" jG f fd ∧ mg "to_place" = some (.ref f))
    (zjb:∃ f fd,Fun K "_law_times" "_law_times" qf f fd ∧ mg "_law_times" = some (.ref f))
    (zi8:∃ f fd,Fun K "_law_placed" "_law_placed" uF f fd ∧ mg "_law_placed" = some (.ref f))
    (zjm:∃ f fd,Fun K "edges" "edges" YD f fd ∧ mg "edges" = some (.ref f))
    (zjp:∃ f fd,Fun K "go" "go" zaI f fd ∧ mg "go" = some (.ref f))
    (zi2:∃ f fd,Fun K "_law_edges" "_law_edges" qe f fd ∧ mg "_law_edges" = some (.ref f))
    (zja:∃ f fd,Fun K "_law_stepped" "_law_stepped" ur f fd ∧ mg "_law_stepped" = some (.ref f))
    (zjz:∃ f fd,Fun K "span" "span" VA f fd ∧ mg "span" = some (.ref f))
    (zjB:∃ f fd,Fun K "to_home" "to_home" kC f fd ∧ mg "to_home" = some (.ref f))
    (zjy:∃ f fd,Fun K "set_rows" "set_rows" jH f fd ∧ mg "set_rows" = some (.ref f))
    (zjd:∃ f fd,Fun K "_law_window" "_law_window" uG f fd ∧ mg "_law_window" = some (.ref f))
    (zjx:∃ f fd,Fun K "set_columns" "set_columns" uD f fd ∧ mg "set_columns" = some (.ref f))
    (zjF:∃ f fd,Fun K "turn_modes" "turn_modes" u8 f fd ∧ mg "turn_modes" = some (.ref f))
    (zi6:∃ f fd,Fun K "_law_moded" "_law_moded" qg f fd ∧ mg "_law_moded" = some (.ref f))
    (zjJ:∃ f fd,Fun K "with_mark" "with_mark" qJ f fd ∧ mg "with_mark" = some (.ref f))
    (zjK:∃ f fd,Fun K "without_mark" "without_mark" um f fd ∧ mg "without_mark" = some (.ref f))
    (zjG:∃ f fd,Fun K "turned_marks" "turned_marks" uo f fd ∧ mg "turned_marks" = some (.ref f))
    (zjg:∃ f fd,Fun K "back_of" "back_of" ko f fd ∧ mg "back_of" = some (.ref f))
    (zjw:∃ f fd,Fun K "marks_of" "marks_of" jF f fd ∧ mg "marks_of" = some (.ref f))
    (zjI:∃ f fd,Fun K "with_fore" "with_fore" qH f fd ∧ mg "with_fore" = some (.ref f))
    (zjo:∃ f fd,Fun K "fore_of" "fore_of" kn f fd ∧ mg "fore_of" = some (.ref f))
    (zjH:∃ f fd,Fun K "with_back" "with_back" qI f fd ∧ mg "with_back" = some (.ref f))
    (zjl:∃ f fd,Fun K "dyed" "dyed" VB f fd ∧ mg "dyed" = some (.ref f))
    (zjk:∃ f fd,Fun K "dye" "dye" QW f fd ∧ mg "dye" = some (.ref f))
    (zi1:∃ f fd,Fun K "_law_dyed" "_law_dyed" qN f fd ∧ mg "_law_dyed" = some (.ref f))
    (zju:∃ f fd,Fun K "keep" "keep" Vy f fd ∧ mg "keep" = some (.ref f))
    (zjA:∃ f fd,Fun K "take_back" "take_back" qK f fd ∧ mg "take_back" = some (.ref f))
    (ziZ:∃ f fd,Fun K "_law_deed" "_law_deed" qQ f fd ∧ mg "_law_deed" = some (.ref f))
    (zjD:∃ f fd,Fun K "told_place" "told_place" u7 f fd ∧ mg "told_place" = some (.ref f))
    (zjE:∃ f fd,Fun K "told_size" "told_size" qL f fd ∧ mg "told_size" = some (.ref f))
    (zjr:∃ f fd,Fun K "ink_text" "ink_text" uL f fd ∧ mg "ink_text" = some (.ref f))
    (zje:∃ f fd,Fun K "asked" "asked" YE f fd ∧ mg "asked" = some (.ref f))
    (zi3:∃ f fd,Fun K "_law_ink_text" "_law_ink_text" vf f fd ∧ mg "_law_ink_text" = some (.ref f))
    (ziW:∃ f fd,Fun K "_law_asked" "_law_asked" qi f fd ∧ mg "_law_asked" = some (.ref f))
    (zjc:∃ f fd,Fun K "_law_told" "_law_told" qO f fd ∧ mg "_law_told" = some (.ref f))
    (zi0:∃ f fd,Fun K "_law_due" "_law_due" jI f fd ∧ mg "_law_due" = some (.ref f))
    (zi4:∃ f fd,Fun K "_law_like" "_law_like" qP f fd ∧ mg "_law_like" = some (.ref f))
    (ziV:∃ f fd,Fun K "_law_above" "_law_above" qj f fd ∧ mg "_law_above" = some (.ref f))
    (zjv:∃ f fd,Fun K "law" "law" QY f fd ∧ mg "law" = some (.ref f))
    (zji:∃ t f fd,FunD K "blank_row" "blank_row" vQ [.int 0 t] f fd ∧ mg "blank_row" = some (.ref f))
    (zjh:∃ t f fd,FunD K "blank_picture" "blank_picture" xR [.int 0 t] f fd ∧ mg "blank_picture" = some (.ref f))
    (zjq:∃ t f fd,FunD K "ink_of" "ink_of" u6 [.int 0 t] f fd ∧ mg "ink_of" = some (.ref f)) :
    ∃ fd:FuncData,(∀ (s:Shared) (v:Value),BindsTo s fd ⟨[v],[]⟩ [("_law_script",v)]) ∧ ∀ base:Heap,K.In base → base.Ns mainGlobals mg → FnOk P w K mg base CX0 7 fa fd ["_law_script"] (zb K sLaw) := by
  obtain ⟨fS,dS,MS,FS⟩ := e_State
  obtain ⟨fB,dB,MB,FB⟩ := e_begin
  obtain ⟨zjZ,zii,zgz,zkP⟩ := zi9
  obtain ⟨zjV,zie,zgv,zkL⟩ := zi5
  obtain ⟨zjN,zh6,zgn,zkD⟩ := ziX
  obtain ⟨zkj,ziD,zgT,zk9⟩ := zjt
  obtain ⟨zki,ziC,zgS,zk8⟩ := zjs
  obtain ⟨zkd,zix,zgN,zk3⟩ := zjn
  obtain ⟨zjO,zh7,zgo,zkE⟩ := ziY
  obtain ⟨zjX,zig,zgx,zkN⟩ := zi7
  obtain ⟨zj5,zio,zgF,zkV⟩ := zjf
  obtain ⟨zj9,zit,zgJ,zkZ⟩ := zjj
  obtain ⟨zks,ziM,zg2,zli⟩ := zjC
  obtain ⟨zj1,zik,zgB,zkR⟩ := zjb
  obtain ⟨zjY,zih,zgy,zkO⟩ := zi8
  obtain ⟨zkc,ziw,zgM,zk2⟩ := zjm
  obtain ⟨zkf,ziz,zgP,zk5⟩ := zjp
  obtain ⟨zjS,zib,zgs,zkI⟩ := zi2
  obtain ⟨zj0,zij,zgA,zkQ⟩ := zja
  obtain ⟨zkp,ziJ,zgZ,zlf⟩ := zjz
  obtain ⟨zkr,ziL,zg1,zlh⟩ := zjB
  obtain ⟨zko,ziI,zgY,zle⟩ := zjy
  obtain ⟨zj3,zim,zgD,zkT⟩ := zjd
  obtain ⟨zkn,ziH,zgX,zld⟩ := zjx
  obtain ⟨zkv,ziP,zg5,zll⟩ := zjF
  obtain ⟨zjW,zif,zgw,zkM⟩ := zi6
  obtain ⟨zkz,ziT,zg9,zlp⟩ := zjJ
  obtain ⟨zkA,ziU,zha,zlq⟩ := zjK
  obtain ⟨zkw,ziQ,zg6,zlm⟩ := zjG
  obtain ⟨zj6,ziq,zgG,zkW⟩ := zjg
  obtain ⟨zkm,ziG,zgW,zlc⟩ := zjw
  obtain ⟨zky,ziS,zg8,zlo⟩ := zjI
  obtain ⟨zke,ziy,zgO,zk4⟩ := zjo
  obtain ⟨zkx,ziR,zg7,zln⟩ := zjH
  obtain ⟨zkb,ziv,zgL,zk1⟩ := zjl
  obtain ⟨zka,ziu,zgK,zk0⟩ := zjk
  obtain ⟨zjR,zia,zgr,zkH⟩ := zi1
  obtain ⟨zkk,ziE,zgU,zla⟩ := zju
  obtain ⟨zkq,ziK,zg0,zlg⟩ := zjA
  obtain ⟨zjP,zh8,zgp,zkF⟩ := ziZ
  obtain ⟨zkt,ziN,zg3,zlj⟩ := zjD
  obtain ⟨zku,ziO,zg4,zlk⟩ := zjE
  obtain ⟨zkh,ziB,zgR,zk7⟩ := zjr
  obtain ⟨zj4,zin,zgE,zkU⟩ := zje
  obtain ⟨zjT,zic,zgt,zkJ⟩ := zi3
  obtain ⟨zjM,zh5,zgm,zkC⟩ := ziW
  obtain ⟨zj2,zil,zgC,zkS⟩ := zjc
  obtain ⟨zjQ,zh9,zgq,zkG⟩ := zi0
  obtain ⟨zjU,zid,zgu,zkK⟩ := zi4
  obtain ⟨zjL,zh4,zgl,zkB⟩ := ziV
  obtain ⟨zkl,ziF,zgV,zlb⟩ := zjv
  obtain ⟨zls,zj8,zis,zgI,zkY⟩ := zji
  obtain ⟨zlr,zj7,zir,zgH,zkX⟩ := zjh
  obtain ⟨zlt,zkg,ziA,zgQ,zk6⟩ := zjq
  rw [hfa] at zlb
  cases zlb
  refine ⟨ziF,fun s v => ?_,fun base _ _ => ?_⟩
  · obtain ⟨oc,od,kV,doc,pm,an,cdv,ct,osl,rfl,_⟩ := zgV.ex
    exact .of_eq rfl
  have zhq:Cal P w K mg base 1 "_law_size" [] (zb K Vs) := ⟨zjZ,zii,_,[],Uk zgz T,zkP,zgz.kp,zgz.binds fun _ _ _ _ _ _ us hl => match us,hl with | [_],_ => rfl,.nil⟩
  have zhm:Cal P w K mg base 1 "_law_mixed" [] (zb K QO) := ⟨zjV,zie,_,[],VL zgv T,zkL,zgv.kp,zgv.binds fun _ _ _ _ _ _ us hl => match us,hl with | [_,_],_ => rfl,.nil⟩
  have zhe:Cal P w K mg base 1 "_law_at" [] (zb K kW) := ⟨zjN,zh6,_,[],Ka zgn T,zkD,zgn.kp,zgn.binds fun _ _ _ _ _ _ us hl => match us,hl with | [_,_],_ => rfl,.nil⟩
  have zhN:Cal P w K mg base 1 "is_whole" [] (zb K ZS) := ⟨zkj,ziD,_,[],Ug zgT T,zk9,zgT.kp,zgT.binds fun _ _ _ _ _ _ us hl => match us,hl with | [_,_,_],_ => rfl,.nil⟩
  have zhM:Cal P w K mg base 2 "is_size" [] (zb K Qt) := ⟨zki,ziC,_,[],Q0 zgS T zhN,zk8,zgS.kp,zgS.binds fun _ _ _ _ _ _ us hl => match us,hl with | [_,_],_ => rfl,.nil⟩
  have zhA:Cal P w K mg base 1 "blank_row" [] (zb K qt) := ⟨zj8,zis,_,[],kJ zgI T,zkY,zgI.kp,V0 zgI,.nil⟩
  have zhB:Cal P w K mg base 1 "blank_row" [.int 0] (zb K qt) := ⟨zj8,zis,_,_,kJ zgI T,zkY,zgI.kp,Xf zgI,.cons ⟨zls,rfl⟩ .nil⟩
  have zhy:Cal P w K mg base 3 "blank_picture" [] (zb K qu) := ⟨zj7,zir,_,[],ql zgH T zhM zhA,zkX,zgH.kp,Zx zgH,.nil⟩
  have zhz:Cal P w K mg base 3 "blank_picture" [.int 0] (zb K qu) := ⟨zj7,zir,_,_,ql zgH T zhM zhA,zkX,zgH.kp,Zb zgH,.cons ⟨zlr,rfl⟩ .nil⟩
  have zhG:Cal P w K mg base 1 "first_stops" [] (zb K Vd) := ⟨zkd,zix,_,[],YH zgN T,zk3,zgN.kp,zgN.binds fun _ _ _ _ _ _ us hl => match us,hl with | [_],_ => rfl,.nil⟩
  have zhb:CalT P w K mg base 2 "begin" C (zb K (Ve C)) := ⟨fB,dB,_,T.st.cl,MB,YI FB T zhG,FB.binds fun _ _ _ _ _ _ us hl => match us,hl with | [_],_ => rfl⟩
  have c_State:CalM P w K mg base 4 "State" C (zb K (Qu C)) := ⟨fS,dS,_,MS,Xa FS T zhz zhb,T.mgC,FS.binds fun _ _ _ _ _ _ us hl => match us,hl with | [_,_,_],_ => rfl⟩
  have zhf:Cal P w K mg base 1 "_law_begun" [] (zb K YA) := ⟨zjO,zh7,_,[],VP zgo T,zkE,zgo.kp,zgo.binds fun _ _ _ _ _ _ us hl => match us,hl with | [_,_],_ => rfl,.nil⟩
  have zho:Cal P w K mg base 1 "_law_number" [] (zb K QP) := ⟨zjX,zig,_,[],Xd zgx T,zkN,zgx.kp,zgx.binds fun _ _ _ _ _ _ us hl => match us,hl with | [_],_ => rfl,.nil⟩
  have zhw:Cal P w K mg base 1 "at_least_one" [] (zb K Yw) := ⟨zj5,zio,_,[],Z9 zgF T,zkV,zgF.kp,zgF.binds fun _ _ _ _ _ _ us hl => match us,hl with | [_],_ => rfl,.nil⟩
  have zhC:Cal P w K mg base 2 "counted" [] (zb K jv) := ⟨zj9,zit,_,[],QZ zgJ T zhw,zkZ,zgJ.kp,zgJ.binds fun _ _ _ _ _ _ us hl => match us,hl with | [_,_,_],_ => rfl,.nil⟩
  have zhV:Cal P w K mg base 3 "to_place" [] (zb K (ZU C)) := ⟨zks,ziM,_,[],Ui zg2 T zhC,zli,zg2.kp,zg2.binds fun _ _ _ _ _ _ us hl => match us,hl with | [_,_,_],_ => rfl,.nil⟩
  have zhs:Cal P w K mg base 1 "_law_times" [] (zb K ja) := ⟨zj1,zik,_,[],VD zgB T,zkR,zgB.kp,zgB.binds fun _ _ _ _ _ _ us hl => match us,hl with | [_],_ => rfl,.nil⟩
  have zhp:Cal P w K mg base 2 "_law_placed" [] (zb K u4) := ⟨zjY,zih,_,[],Xc zgy T zhs,zkO,zgy.kp,zgy.binds fun _ _ _ _ _ _ us hl => match us,hl with | [_,_,_],_ => rfl,.nil⟩
  have zhF:Cal P w K mg base 1 "edges" [] (zb K (Vc C)) := ⟨zkc,ziw,_,[],zaJ zgM T,zk2,zgM.kp,zgM.binds fun _ _ _ _ _ _ us hl => match us,hl with | [_],_ => rfl,.nil⟩
  have zhI:Cal P w K mg base 2 "go" [] (zb K (zaF C)) := ⟨zkf,ziz,_,[],zfr zgP T zhw zhF,zk5,zgP.kp,zgP.binds fun _ _ _ _ _ _ us hl => match us,hl with | [_,_,_],_ => rfl,.nil⟩
  have zhj:Cal P w K mg base 1 "_law_edges" [] (zb K Yz) := ⟨zjS,zib,_,[],VM zgs T,zkI,zgs.kp,zgs.binds fun _ _ _ _ _ _ us hl => match us,hl with | [_],_ => rfl,.nil⟩
  have zhr:Cal P w K mg base 2 "_law_stepped" [] (zb K km) := ⟨zj0,zij,_,[],YL zgA T zhj zhs,zkQ,zgA.kp,zgA.binds fun _ _ _ _ _ _ us hl => match us,hl with | [_,_,_],_ => rfl,.nil⟩
  have zhS:Cal P w K mg base 2 "span" [] (zb K ZT) := ⟨zkp,ziJ,_,[],zcZ zgZ T zhw,zlf,zgZ.kp,zgZ.binds fun _ _ _ _ _ _ us hl => match us,hl with | [_,_,_],_ => rfl,.nil⟩
  have zhU:Cal P w K mg base 4 "to_home" [] (zb K (ZV C)) := ⟨zkr,ziL,_,[],Q3 zg1 T zhV,zlh,zg1.kp,zg1.binds fun _ _ _ _ _ _ us hl => match us,hl with | [_],_ => rfl,.nil⟩
  have zhR:Cal P w K mg base 5 "set_rows" [] (zb K (Xr C)) := ⟨zko,ziI,_,[],Uj zgY T zhS zhU,zle,zgY.kp,zgY.binds fun _ _ _ _ _ _ us hl => match us,hl with | [_,_,_],_ => rfl,.nil⟩
  have zhu:Cal P w K mg base 3 "_law_window" [] (zb K jD) := ⟨zj3,zim,_,[],Xe zgD T zhs zhp,zkT,zgD.kp,zgD.binds fun _ _ _ _ _ _ us hl => match us,hl with | [_,_,_,_],_ => rfl,.nil⟩
  have zhQ:Cal P w K mg base 5 "set_columns" [] (zb K (Xs C)) := ⟨zkn,ziH,_,[],YG zgX T zhS zhU,zld,zgX.kp,zgX.binds fun _ _ _ _ _ _ us hl => match us,hl with | [_,_,_],_ => rfl,.nil⟩
  have zhY:Cal P w K mg base 5 "turn_modes" [] (zb K (ZW C)) := ⟨zkv,ziP,_,[],Y9 zg5 T zhU,zll,zg5.kp,zg5.binds fun _ _ _ _ _ _ us hl => match us,hl with | [_,_,_],_ => rfl,.nil⟩
  have zhn:Cal P w K mg base 3 "_law_moded" [] (zb K kY) := ⟨zjW,zif,_,[],VN zgw T zhp,zkM,zgw.kp,zgw.binds fun _ _ _ _ _ _ us hl => match us,hl with | [_,_,_],_ => rfl,.nil⟩
  have zh2:Cal P w K mg base 1 "with_mark" [] (zb K (sI2 (fun _ _ => True) fun i m => Builtin.bitOr i ((xU [(0,64),(1,128),(2,256)] m).getD 0))) := ⟨zkz,ziT,_,[],VE zg9 T,zlp,zg9.kp,zg9.binds fun _ _ _ _ _ _ us hl => match us,hl with | [_,_],_ => rfl,.nil⟩
  have zh3:Cal P w K mg base 1 "without_mark" [] (zb K (sI2 (fun _ _ => True) fun i m => Builtin.bitAnd i (Builtin.bitNot ((xU [(0,64),(1,128),(2,256)] m).getD 0)))) := ⟨zkA,ziU,_,[],Yb zha T,zlq,zha.kp,zha.binds fun _ _ _ _ _ _ us hl => match us,hl with | [_,_],_ => rfl,.nil⟩
  have zhZ:Cal P w K mg base 1 "turned_marks" [] (zb K (sI1 (fun _ => True) fun i => Builtin.bitXor i 448)) := ⟨zkw,ziQ,_,[],Ya zg6 T,zlm,zg6.kp,zg6.binds fun _ _ _ _ _ _ us hl => match us,hl with | [_],_ => rfl,.nil⟩
  have zhJ:Cal P w K mg base 1 "ink_of" [] (zb K jb) := ⟨zkg,ziA,_,[],Y2 zgQ T,zk6,zgQ.kp,Kg zgQ,.nil⟩
  have zhK:Cal P w K mg base 1 "ink_of" [.int 0] (zb K jb) := ⟨zkg,ziA,_,_,Y2 zgQ T,zk6,zgQ.kp,Q6 zgQ,.cons ⟨zlt,rfl⟩ .nil⟩
  have zhx:Cal P w K mg base 1 "back_of" [] (zb K (sI1 (fun _ => True) fun i => Builtin.bitAnd (i / 8) 7)) := ⟨zj6,ziq,_,[],Q2 zgG T,zkW,zgG.kp,zgG.binds fun _ _ _ _ _ _ us hl => match us,hl with | [_],_ => rfl,.nil⟩
  have zhP:Cal P w K mg base 1 "marks_of" [] (zb K (sI1 (fun _ => True) fun i => Builtin.bitAnd (i / 64) 7)) := ⟨zkm,ziG,_,[],Uh zgW T,zlc,zgW.kp,zgW.binds fun _ _ _ _ _ _ us hl => match us,hl with | [_],_ => rfl,.nil⟩
  have zh1:Cal P w K mg base 2 "with_fore" [] (zb K (sI2 (fun i _ => Ink i) fun i h => h + 8 * Builtin.bitAnd (i / 8) 7 + 64 * Builtin.bitAnd (i / 64) 7)) := ⟨zky,ziS,_,[],VF zg8 T zhJ zhx zhP,zlo,zg8.kp,zg8.binds fun _ _ _ _ _ _ us hl => match us,hl with | [_,_],_ => rfl,.nil⟩
  have zhH:Cal P w K mg base 1 "fore_of" [] (zb K (sI1 (fun _ => True) fun i => Builtin.bitAnd i 7)) := ⟨zke,ziy,_,[],Q1 zgO T,zk4,zgO.kp,zgO.binds fun _ _ _ _ _ _ us hl => match us,hl with | [_],_ => rfl,.nil⟩
  have zh0:Cal P w K mg base 2 "with_back" [] (zb K (sI2 (fun i h => Ink i ∧ 0 ≤ h ∧ h ≤ 10) fun i h => Builtin.bitAnd i 7 + 8 * h + 64 * Builtin.bitAnd (i / 64) 7)) := ⟨zkx,ziR,_,[],VG zg7 T zhJ zhH zhP,zln,zg7.kp,zg7.binds fun _ _ _ _ _ _ us hl => match us,hl with | [_,_],_ => rfl,.nil⟩
  have zhE:Cal P w K mg base 3 "dyed" [] (zb K Xq) := ⟨zkb,ziv,_,[],zc0 zgL T zh2 zh3 zhZ zh1 zh0,zk1,zgL.kp,zgL.binds fun _ _ _ _ _ _ us hl => match us,hl with | [_,_],_ => rfl,.nil⟩
  have zhD:Cal P w K mg base 4 "dye" [] (zb K (zar C)) := ⟨zka,ziu,_,[],zeI zgK T zhE,zk0,zgK.kp,zgK.binds fun _ _ _ _ _ _ us hl => match us,hl with | [_,_],_ => rfl,.nil⟩
  have zhi:Cal P w K mg base 1 "_law_dyed" [] (zb K Vr) := ⟨zjR,zia,_,[],Uo zgr T,zkH,zgr.kp,zgr.binds fun _ _ _ _ _ _ us hl => match us,hl with | [_,_],_ => rfl,.nil⟩
  have zhO:Cal P w K mg base 1 "keep" [] (zb K (qy C xf)) := ⟨zkk,ziE,_,[],zc1 zgU T,zla,zgU.kp,zgU.binds fun _ _ _ _ _ _ us hl => match us,hl with | [_],_ => rfl,.nil⟩
  have zhT:Cal P w K mg base 1 "take_back" [] (zb K (qy C yX)) := ⟨zkq,ziK,_,[],VH zg0 T,zlg,zg0.kp,zg0.binds fun _ _ _ _ _ _ us hl => match us,hl with | [_],_ => rfl,.nil⟩
  have zhg:Cal P w K mg base 6 "_law_deed" [] (zb K (sDeed20 C)) := ⟨zjP,zh8,_,[],Ur zgp T zho zhV zhp zhI zhr zhR zhu zhQ zhY zhn zhD zhi zhO zhT,zkF,zgp.kp,zgp.binds fun _ _ _ _ _ _ us hl => match us,hl with | [_,_,_],_ => rfl,.nil⟩
  have zhW:Cal P w K mg base 1 "told_place" [] (zb K (jf C plT)) := ⟨zkt,ziN,_,[],Xb zg3 T,zlj,zg3.kp,zg3.binds fun _ _ _ _ _ _ us hl => match us,hl with | [_],_ => rfl,.nil⟩
  have zhX:Cal P w K mg base 1 "told_size" [] (zb K (jf C szT)) := ⟨zku,ziO,_,[],VI zg4 T,zlk,zg4.kp,zg4.binds fun _ _ _ _ _ _ us hl => match us,hl with | [_],_ => rfl,.nil⟩
  have zhL:Cal P w K mg base 2 "ink_text" [] (zb K k8) := ⟨zkh,ziB,_,[],Uq zgR T zhH zhx,zk7,zgR.kp,zgR.binds fun _ _ _ _ _ _ us hl => match us,hl with | [_],_ => rfl,.nil⟩
  have zhv:Cal P w K mg base 3 "asked" [] (zb K (Z5 C)) := ⟨zj4,zin,_,[],zaO zgE T zhW zhX zhL,zkU,zgE.kp,zgE.binds fun _ _ _ _ _ _ us hl => match us,hl with | [_,_],_ => rfl,.nil⟩
  have zhk:Cal P w K mg base 1 "_law_ink_text" [] (zb K k8) := ⟨zjT,zic,_,[],Yd zgt T,zkJ,zgt.kp,zgt.binds fun _ _ _ _ _ _ us hl => match us,hl with | [_],_ => rfl,.nil⟩
  have zhd:Cal P w K mg base 2 "_law_asked" [] (zb K kX) := ⟨zjM,zh5,_,[],VT zgm T zhk,zkC,zgm.kp,zgm.binds fun _ _ _ _ _ _ us hl => match us,hl with | [_,_],_ => rfl,.nil⟩
  have zht:Cal P w K mg base 1 "_law_told" [] (zb K (QN C)) := ⟨zj2,zil,_,[],Ul zgC T,zkS,zgC.kp,zgC.binds fun _ _ _ _ _ _ us hl => match us,hl with | [_],_ => rfl,.nil⟩
  have zhh:Cal P w K mg base 1 "_law_due" [] (zb K zaG) := ⟨zjQ,zh9,_,[],Q5 zgq T,zkG,zgq.kp,zgq.binds fun _ _ _ _ _ _ us hl => match us,hl with | [_],_ => rfl,.nil⟩
  have zhl:Cal P w K mg base 2 "_law_like" [] (zb K (Xv C)) := ⟨zjU,zid,_,[],Um zgu T zht zhh,zkK,zgu.kp,zgu.binds fun _ _ _ _ _ _ us hl => match us,hl with | [_,_],_ => rfl,.nil⟩
  have zhc:Cal P w K mg base 6 "_law_above" [] (zb K (sAbove C)) := ⟨zjL,zh4,_,[],VZ zgl T zhR zhY zhu zhn zhO zhQ zhT zhv zhd zhl,zkB,zgl.kp,zgl.binds fun _ _ _ _ _ _ us hl => match us,hl with | [_,_],_ => rfl,.nil⟩
  exact zeL zgV T zhq zhm zhe c_State zhf zhg zhv zhd zhl zhc
theorem txt_mk {P:Program} {w:World} {bw:Addr} {K:PySem.W.Frag} {h:Heap} {mg:Str → Option Value} {C aB:Addr} {t_WIDEST t_HIGHEST t_TAB_STEP t_ALL_MARKS t_MOST_KEPT:Tok} (X:K.In h) (G:h.Ns mainGlobals mg)
    (n_len:PySem.W.nsIn K mainGlobals "len" = some none)
    (n_range:PySem.W.nsIn K mainGlobals "range" = some none)
    (n_int:PySem.W.nsIn K mainGlobals "int" = some none)
    (n_bool:PySem.W.nsIn K mainGlobals "bool" = some none)
    (n_str:PySem.W.nsIn K mainGlobals "str" = some none)
    (n_dict:PySem.W.nsIn K mainGlobals "dict" = some none)
    (n_list:PySem.W.nsIn K mainGlobals "list" = some none)
    (n_tuple:PySem.W.nsIn K mainGlobals "tuple" = some none)
    (n_isinstance:PySem.W.nsIn K mainGlobals "isinstance" = some none)
    (n_sorted:PySem.W.nsIn K mainGlobals "sorted" = some none)
    (n_min:PySem.W.nsIn K mainGlobals "min" = some none)
    (n_max:PySem.W.nsIn K mainGlobals "max" = some none)
    (n_zip:PySem.W.nsIn K mainGlobals "zip" = some none)
    (n_repr:PySem.W.nsIn K mainGlobals "repr" = some none)
    (n_enumerate:PySem.W.nsIn K mainGlobals "enumerate" = some none)
    (g_WIDEST:PySem.W.nsIn K mainGlobals "WIDEST" = some (some (.int 24 t_WIDEST)))
    (g_HIGHEST:PySem.W.nsIn K mainGlobals "HIGHEST" = some (some (.int 12 t_HIGHEST)))
    (g_TAB_STEP:PySem.W.nsIn K mainGlobals "TAB_STEP" = some (some (.int 4 t_TAB_STEP)))
    (g_ALL_MARKS:PySem.W.nsIn K mainGlobals "ALL_MARKS" = some (some (.int 448 t_ALL_MARKS)))
    (g_MOST_KEPT:PySem.W.nsIn K mainGlobals "MOST_KEPT" = some (some (.int 8 t_MOST_KEPT)))
    (g_B:PySem.W.nsIn K mainGlobals "BITS_BY_MARK" = some (some (.ref aB))) (d_B:DK K aB [(0,64),(1,128),(2,256)])
    (g_bw:PySem.W.nsIn K mainGlobals "BITS_BY_WORD" = some (some (.ref bw))) (d_bw:DS P w K bw bitsD)
    (aC:PySem.W.nsIn K mainGlobals "State" = some (some (.ref C)))
    (pg:PySem.W.plainGet K C Str.empty = true) (hd:PySem.W.hasDictIn K C = true) (po:PySem.W.plainOver K C = true) (sa:PySem.W.findIn K (.ref C) "__setattr__" = some (some (.builtin "object.__setattr__")))
    (a_picture:PySem.W.findIn K (.ref C) "picture" = some none)
    (a_wide:PySem.W.findIn K (.ref C) "wide" = some none)
    (a_high:PySem.W.findIn K (.ref C) "high" = some none)
    (a_row:PySem.W.findIn K (.ref C) "row" = some none)
    (a_column:PySem.W.findIn K (.ref C) "column" = some none)
    (a_late:PySem.W.findIn K (.ref C) "late" = some none)
    (a_ink:PySem.W.findIn K (.ref C) "ink" = some none)
    (a_wrap:PySem.W.findIn K (.ref C) "wrap" = some none)
    (a_putting:PySem.W.findIn K (.ref C) "putting" = some none)
    (a_home:PySem.W.findIn K (.ref C) "home" = some none)
    (a_top:PySem.W.findIn K (.ref C) "top" = some none)
    (a_bottom:PySem.W.findIn K (.ref C) "bottom" = some none)
    (a_left:PySem.W.findIn K (.ref C) "left" = some none)
    (a_right:PySem.W.findIn K (.ref C) "right" = some none)
    (a_stops:PySem.W.findIn K (.ref C) "stops" = some none)
    (a_kept:PySem.W.findIn K (.ref C) "kept" = some none)
    (a_last:PySem.W.findIn K (.ref C) "last" = some none)
    : Txt P w K mg C bw :=
  ⟨PySem.W.mg_none_of X G n_len,PySem.W.mg_none_of X G n_range,PySem.W.mg_none_of X G n_int,PySem.W.mg_none_of X G n_bool,PySem.W.mg_none_of X G n_str,PySem.W.mg_none_of X G n_dict,PySem.W.mg_none_of X G n_list,PySem.W.mg_none_of X G n_tuple,PySem.W.mg_none_of X G n_isinstance,PySem.W.mg_none_of X G n_sorted,PySem.W.mg_none_of X G n_min,PySem.W.mg_none_of X G n_max,PySem.W.mg_none_of X G n_zip,PySem.W.mg_none_of X G n_repr,PySem.W.mg_none_of X G n_enumerate,⟨t_WIDEST,PySem.W.mg_of X G g_WIDEST⟩,⟨t_HIGHEST,PySem.W.mg_of X G g_HIGHEST⟩,⟨t_TAB_STEP,PySem.W.mg_of X G g_TAB_STEP⟩,⟨t_ALL_MARKS,PySem.W.mg_of X G g_ALL_MARKS⟩,⟨t_MOST_KEPT,PySem.W.mg_of X G g_MOST_KEPT⟩,⟨aB,PySem.W.mg_of X G g_B,d_B⟩,PySem.W.mg_of X G g_bw,d_bw,PySem.W.mg_of X G aC,⟨⟨pg,hd,po,sa⟩,a_picture,a_wide,a_high,a_row,a_column,a_late,a_ink,a_wrap,a_putting,a_home,a_top,a_bottom,a_left,a_right,a_stops,a_kept,a_last⟩⟩
end K20
noncomputable def PySem.W.Fast.tw9907347647391795196:Unit := ()
noncomputable def PySem.W.Fast.tw17061459153159881379:Unit := ()
noncomputable def PySem.W.Fast.tw3501017561584513858:Unit := ()
noncomputable def PySem.W.Fast.tw11752821643948406651:Unit := ()
noncomputable def PySem.W.Fast.tw16864309264521901197:Unit := ()
noncomputable def PySem.W.Fast.tw7511488084857210665:Unit := ()
noncomputable def PySem.W.Fast.tw4492950856981466536:Unit := ()
noncomputable def PySem.W.Fast.tw1069659485924950247:Unit := ()
noncomputable def PySem.W.Fast.tw16523264548800114776:Unit := ()
noncomputable def PySem.W.Fast.tw860826977808514219:Unit := ()
noncomputable def PySem.W.Fast.tw11184187273784550612:Unit := ()
noncomputable def PySem.W.Fast.tw17454486186338015078:Unit := ()
noncomputable def PySem.W.Fast.tw2218029822466070569:Unit := ()
noncomputable def PySem.W.Fast.tw12853005817501858167:Unit := ()
noncomputable def PySem.W.Fast.tw6897322614236774186:Unit := ()
noncomputable def PySem.W.Fast.tw5119586511107545729:Unit := ()
noncomputable def PySem.W.Fast.tw4051574599278418520:Unit := ()
noncomputable def PySem.W.Fast.tw1245553392029173596:Unit := ()
noncomputable def PySem.W.Fast.tw819624374375059043:Unit := ()
noncomputable def PySem.W.Fast.tw3074216310231619865:Unit := ()
noncomputable def PySem.W.Fast.tw15807263565287944770:Unit := ()
noncomputable def PySem.W.Fast.tw15985038124988432136:Unit := ()
noncomputable def PySem.W.Fast.tw13294959921065432739:Unit := ()
noncomputable def PySem.W.Fast.tw2395746143455508962:Unit := ()
noncomputable def PySem.W.Fast.tw4017813181594966268:Unit := ()
noncomputable def PySem.W.Fast.tw15684930357110864840:Unit := ()
noncomputable def PySem.W.Fast.tw6099060136287382195:Unit := ()
noncomputable def PySem.W.Fast.tw13365078707447237393:Unit := ()
noncomputable def PySem.W.Fast.tw7458722779303116366:Unit := ()
noncomputable def PySem.W.Fast.tw13083827923077241734:Unit := ()
noncomputable def PySem.W.Fast.tw13976322266343248839:Unit := ()
noncomputable def PySem.W.Fast.tw2462563923084381822:Unit := ()
noncomputable def PySem.W.Fast.tw2657084587218094805:Unit := ()
noncomputable def PySem.W.Fast.tw13871962736233801660:Unit := ()
noncomputable def PySem.W.Fast.tw6437276347770131199:Unit := ()
noncomputable def PySem.W.Fast.tw1996821296011841540:Unit := ()
noncomputable def PySem.W.Fast.tw6470876662225768571:Unit := ()
noncomputable def PySem.W.Fast.tw12873842812974353715:Unit := ()
noncomputable def PySem.W.Fast.tw5515637244665616041:Unit := ()
noncomputable def PySem.W.Fast.tw8098209877695924713:Unit := ()
noncomputable def PySem.W.Fast.tw11655784786526799284:Unit := ()
noncomputable def PySem.W.Fast.tw12500252030791635210:Unit := ()
noncomputable def PySem.W.Fast.tw5343873384933877374:Unit := ()
noncomputable def PySem.W.Fast.tw957084823326262199:Unit := ()
noncomputable def PySem.W.Fast.tw5820803784435426997:Unit := ()
noncomputable def PySem.W.Fast.tw7547347003424430765:Unit := ()
noncomputable def PySem.W.Fast.tw2109593372255298021:Unit := ()
noncomputable def PySem.W.Fast.tw4220744427884273445:Unit := ()
noncomputable def PySem.W.Fast.tw15493002610505058159:Unit := ()
noncomputable def PySem.W.Fast.tw5126373052123942046:Unit := ()
noncomputable def PySem.W.Fast.tw16580370571236558957:Unit := ()
noncomputable def PySem.W.Fast.tw16537603228838292443:Unit := ()
noncomputable def PySem.W.Fast.tw3496725720018074493:Unit := ()
noncomputable def PySem.W.Fast.tw2981461238979905393:Unit := ()
noncomputable def PySem.W.Fast.tw3726277339959316876:Unit := ()
noncomputable def PySem.W.Fast.tw13424127583824777904:Unit := ()
noncomputable def PySem.W.Fast.tw4970613386486678252:Unit := ()
noncomputable def PySem.W.Fast.tw16586676153608098591:Unit := ()
noncomputable def PySem.W.Fast.tw17263167522010471841:Unit := ()
noncomputable def PySem.W.Fast.tw12718433155623524781:Unit := ()
noncomputable def PySem.W.Fast.tw13864706936335969398:Unit := ()
noncomputable def PySem.W.Fast.tw14234803926833527073:Unit := ()
noncomputable def PySem.W.Fast.tw11184297223868034706:Unit := ()
noncomputable def PySem.W.Fast.tw3161340218084413993:Unit := ()
noncomputable def PySem.W.Fast.tw2619415259090006419:Unit := ()
noncomputable def PySem.W.Fast.tw13260353953003145839:Unit := ()
noncomputable def PySem.W.Fast.tw13484471824158809814:Unit := ()
noncomputable def PySem.W.Fast.tw12073977940524362800:Unit := ()
noncomputable def PySem.W.Fast.tw14122997399570335349:Unit := ()
noncomputable def PySem.W.Fast.tw8989486660615481725:Unit := ()
noncomputable def PySem.W.Fast.tw1222327063236469780:Unit := ()
noncomputable def PySem.W.Fast.tw976526943765432046:Unit := ()
open PySem PySem.W PyProof.Rows
set_option maxRecDepth 100000 in
set_option maxHeartbeats 0 in
theorem PySem.Challenge.cw_signscreen_k20_questions_holds : PySem.Challenge.rw_signscreen_k20_questions.Holds := by
  w_on; o_law; k_head; (case hw => w_witness2)
  k_fill
  refine L2.walkW (l := PySem.Challenge.rw_signscreen_k20_questions) (n := 63) (k := 7) (x := "_law_script") (s := L2.sLaw) rfl (by decide) rfl ⟨rfl,by decide,by decide,rfl⟩ (fun w h Y => PySem.W.kIn_of Y) ?F (fun ns O R hl hb hR => ⟨ns,rfl,fun n h => (hb n h).mono (by decide),hl,hR⟩)
  case F =>
    intro w mg fa h KX G hmg
    refine' K20.all_mk ?T hmg ?e_State ?e_begin ?zi9 ?zi5 ?ziX ?zjt ?zjs ?zjn ?ziY ?zi7 ?zjf ?zjj ?zjC ?zjb ?zi8 ?zjm ?zjp ?zi2 ?zja ?zjz ?zjB ?zjy ?zjd ?zjx ?zjF ?zi6 ?zjJ ?zjK ?zjG ?zjg ?zjw ?zjI ?zjo ?zjH ?zjl ?zjk ?zi1 ?zju ?zjA ?ziZ ?zjD ?zjE ?zjr ?zje ?zi3 ?ziW ?zjc ?zi0 ?zi4 ?ziV ?zjv ?zji ?zjh ?zjq
    case T =>
      refine' K20.txt_mk KX G ?n_len ?n_range ?n_int ?n_bool ?n_str ?n_dict ?n_list ?n_tuple ?n_isinstance ?n_sorted ?n_min ?n_max ?n_zip ?n_repr ?n_enumerate ?g_WIDEST ?g_HIGHEST ?g_TAB_STEP ?g_ALL_MARKS ?g_MOST_KEPT ?g_B ?d_B ?g_bw ?d_bw ?aC ?pg ?hd ?po ?sa ?a_picture ?a_wide ?a_high ?a_row ?a_column ?a_late ?a_ink ?a_wrap ?a_putting ?a_home ?a_top ?a_bottom ?a_left ?a_right ?a_stops ?a_kept ?a_last
      (case n_len => k_is)
      (case n_range => k_is)
      (case n_int => k_is)
      (case n_bool => k_is)
      (case n_str => k_is)
      (case n_dict => k_is)
      (case n_list => k_is)
      (case n_tuple => k_is)
      (case n_isinstance => k_is)
      (case n_sorted => k_is)
      (case n_min => k_is)
      (case n_max => k_is)
      (case n_zip => k_is)
      (case n_repr => k_is)
      (case n_enumerate => k_is)
      (case g_WIDEST => k_is)
      (case g_HIGHEST => k_is)
      (case g_TAB_STEP => k_is)
      (case g_ALL_MARKS => k_is)
      (case g_MOST_KEPT => k_is)
      (case g_B => k_is)
      (case d_B => rfl)
      (case g_bw => k_is)
      (case d_bw => exact L2.DS.of (by kernel_rfl) (by decide +kernel) (by kernel_rfl))
      (case aC => k_is)
      (case pg => k_is)
      (case hd => k_is)
      (case po => k_is)
      (case sa => k_is)
      (case a_picture => k_is)
      (case a_wide => k_is)
      (case a_high => k_is)
      (case a_row => k_is)
      (case a_column => k_is)
      (case a_late => k_is)
      (case a_ink => k_is)
      (case a_wrap => k_is)
      (case a_putting => k_is)
      (case a_home => k_is)
      (case a_top => k_is)
      (case a_bottom => k_is)
      (case a_left => k_is)
      (case a_right => k_is)
      (case a_stops => k_is)
      (case a_kept => k_is)
      (case a_last => k_is)
    case e_State =>
      refine' K20.mk_State ?mk ?a1 ?i1 ?kc ?l ?c ?k
      (case mk => k_is); (case a1 => k_is); (case i1 => k_is); (case kc => k_is); (case l => k_is); (case c => k_is); (case k => k_is)
    case e_begin =>
      refine' K20.mt_begin ?a1 ?i1 ?l ?c ?k
      (case a1 => k_is); (case i1 => k_is); (case l => k_is); (case c => k_is); (case k => k_is)
    case zji => exact ⟨_,by (refine' K20.fkD KX G ?a ?l ?c ?k ?t ?e; (case a => k_is); (case l => k_is); (case c => k_is); (case k => k_is); (case t => k_is); (case e => rfl))⟩
    case zjh => exact ⟨_,by (refine' K20.fkD KX G ?a ?l ?c ?k ?t ?e; (case a => k_is); (case l => k_is); (case c => k_is); (case k => k_is); (case t => k_is); (case e => rfl))⟩
    case zjq => exact ⟨_,by (refine' K20.fkD KX G ?a ?l ?c ?k ?t ?e; (case a => k_is); (case l => k_is); (case c => k_is); (case k => k_is); (case t => k_is); (case e => rfl))⟩
    all_goals (refine' K20.fk KX G ?a ?l ?c ?k; (case a => k_is); (case l => k_is); (case c => k_is); (case k => k_is))
